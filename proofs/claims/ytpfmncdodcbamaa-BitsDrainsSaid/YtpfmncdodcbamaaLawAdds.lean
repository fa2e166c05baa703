/- The laws BitsAdds, BitsUnions: their walks. -/
import Derived.Test.YtpfmncdodcbamaaShown
namespace Go.Proofs.Ytpfmncdodcbamaa
open Go.RowKit Go.Proofs

set_option maxHeartbeats 400000 in
theorem cut_any (A : Option Addr) (n c : Nat) (w : World) (hn : n ≤ c) (hc : c ≤ 9223372036854775807) :
    Calls Try.prog 11 #[.slice A n c] w fun e w' => e = .returned (.slice A (min n 200) c) ∧ w = w' := by
  by_cases h : n ≤ 200
  · have e : min n 200 = n := by omega
    rw [e]
    clear e
    go_enter Try.func11, Try.ntmps11
    go_wp2
    go_ret
    exact ⟨rfl, rfl⟩
  · have e : min n 200 = 200 := by omega
    rw [e]
    clear e
    go_enter Try.func11, Try.ntmps11
    go_wp2
    go_ret
    exact ⟨rfl, rfl⟩

theorem isSet_one (x : Int) : isSet [x] = decide (0 ≤ x ∧ x ≤ 1073741824) := by simp [isSet, setFrom]

set_option maxHeartbeats 1000000 in
theorem refAdd_any (A : Option Addr) (n c : Nat) (l : List Int) (x : Int) (w : World) (hx : I64 x) (hr : Ints w w.heap.size A n c l) :
    Calls Try.prog 13 #[.slice A n c, .int .i64 x] w fun e w' => AddSays l x e w' ∧ Below w.heap.size w w' := by
  have hx' := hx
  unfold I64 at hx'
  obtain ⟨hx1, hx2⟩ := hx'
  have HR := Lib.hid (refRight_any A n c _ l w hr)
  cases hs : isSet l with
  | false =>
    rw [hs] at HR
    have hno : (isSet l && isSet [x]) = false := by rw [hs]; rfl
    have HN := Lib.hid hno
    clear hno hs
    go_enter Try.func13, Try.ntmps13
    go_wp2_with (go_at_call 15; (with_reducible refine (HR.out).mono ?_); rintro e w' ⟨rfl, hdr⟩)
    go_ret3
    refine ⟨?_, below_drewn hdr⟩
    unfold AddSays
    rw [HN.out]
    rfl
  | true =>
    rw [hs] at HR
    by_cases h1 : x < 0
    · have hno : (isSet l && isSet [x]) = false := by
        rw [hs, isSet_one]; simp; omega
      have HN := Lib.hid hno
      clear hno hs
      go_enter Try.func13, Try.ntmps13
      go_wp2_with (go_at_call 15; (with_reducible refine (HR.out).mono ?_); rintro e w' ⟨rfl, hdr⟩)
      go_ret3
      refine ⟨?_, below_drewn hdr⟩
      unfold AddSays
      rw [HN.out]
      rfl
    · by_cases h2 : 1073741824 < x
      · have hno : (isSet l && isSet [x]) = false := by
          rw [hs, isSet_one]; simp; omega
        have HN := Lib.hid hno
        clear hno hs
        go_enter Try.func13, Try.ntmps13
        go_wp2_with (go_at_call 15; (with_reducible refine (HR.out).mono ?_); rintro e w' ⟨rfl, hdr⟩)
        go_ret3
        refine ⟨?_, below_drewn hdr⟩
        unfold AddSays
        rw [HN.out]
        rfl
      · have hyes : (isSet l && isSet [x]) = true := by
          rw [hs, isSet_one]; simp; omega
        have hset := withL_set (x := x) hs (by omega)
        have hlen := isSet_len hs
        have HN := Lib.hid hyes
        have HI := Lib.hid (And.intro hr hset)
        have HLn := Lib.hid (show n ≤ 4398046511104 by have := hr.1; omega)
        clear hyes hs hset hlen hr
        go_enter Try.func13, Try.ntmps13
        go_wp2_with fail
        go_at_call 15
        (with_reducible refine (HR.out).mono ?_)
        rintro e w1 ⟨rfl, hdr⟩
        have hb1 := below_drewn hdr
        have hi1 := (HI.out.1.below hb1).more hb1.size
        have HH := Lib.hid (refHas_any A n c _ l x w1 hi1)
        have HW := Lib.hid (with_any A n c l x w1 hi1 HLn.out)
        clear hi1
        go_wp2_with (first | (go_at_call 17; (with_reducible refine (HH.out).mono ?_); rintro e w2 ⟨rfl, rfl⟩) | (go_at_call 31; (with_reducible refine (HW.out).mono ?_); rintro e w2 ⟨v, rfl, hown, hb2⟩))
        obtain ⟨A3, c3, rfl, hi3⟩ := ints_of_own hown (isSet_I64 HI.out.2.1) (by have := isSet_len HI.out.2.1; omega)
        go_ret3
        refine ⟨?_, hb1.trans (hb2.mono hb1.size)⟩
        unfold AddSays
        rw [HN.out]
        exact ⟨A3, _, c3, _, rfl, hi3, HI.out.2.1, fun y => by rw [HI.out.2.2 y]; simp⟩

theorem AddSays.yes {l : List Int} {x : Int} {e : Ending} {w' : World} (h : AddSays l x e w') (hs : (isSet l && isSet [x]) = true) : ∃ A2 n2 c2 r, e = .returned (.tuple #[.slice A2 n2 c2, .bool (!hasB l x), .int .i64 0]) ∧ Ints w' w'.heap.size A2 n2 c2 r ∧ UniOf r [l, [x]] := by
  unfold AddSays at h; rwa [if_pos hs] at h
theorem AddSays.no {l : List Int} {x : Int} {e : Ending} {w' : World} (h : AddSays l x e w') (hs : (isSet l && isSet [x]) = false) : e = .returned (.tuple #[.slice none 0 0, .bool false, .int .i64 2]) := by
  unfold AddSays at h; rwa [if_neg (by rw [hs]; simp)] at h

set_option maxHeartbeats 2000000 in
theorem adds_walk (A : Option Addr) (n c : Nat) (l : List Int) (x : Int) (w : World) (hx : I64 x) (hn : n ≤ c) (hc : c ≤ 9223372036854775807) (hr : Ints w w.heap.size A (min n 200) c l) :
    Calls Try.prog 3 #[.slice A n c, .int .i64 x] w fun e w' => e = .returned (.bool true) ∧ Below w.heap.size w w' := by
  have HS := Lib.hid (shown_any w)
  have HR := Lib.hid hr
  generalize hm : min n 200 = m at hr HR
  have HCut := Lib.hid (fun (W : World) => by simpa [hm] using cut_any A n c W hn hc)
  clear hm hr
  go_enter Try.func3, Try.ntmps3
  go_wp2_with fail
  go_at_call 10
  refine (HS.out).mono ?_
  rintro e w1 ⟨rfl, hb1⟩
  have HI1 := Lib.hid ((HR.out.below hb1).more hb1.size)
  have HB1 := Lib.hid hb1
  clear hb1
  go_wp2_with fail
  go_at_call 11
  refine (HCut.out w1).mono ?_
  rintro e w1' ⟨rfl, rfl⟩
  have HA := Lib.hid (add_any A m c l x w1 hx HI1.out)
  go_wp2_with fail
  go_at_call 12
  refine (HA.out).mono ?_
  rintro e w2 ⟨ha, hb2⟩
  have HI2 := Lib.hid ((HI1.out.below hb2).more hb2.size)
  have HB2 := Lib.hid (below2 HB1.out hb2 HB1.out.size)
  have HA2 := Lib.hid (refAdd_any A m c l x w2 hx HI2.out)
  cases hs : isSet l && isSet [x] with
  | false =>
    obtain rfl := ha.no hs
    have HSS := Lib.hid hs
    clear hs hb2 ha
    go_wp2_with fail
    go_at_call 13
    refine (HA2.out).mono ?_
    rintro e w3 ⟨ha3, hb3⟩
    obtain rfl := ha3.no HSS.out
    have HI3 := Lib.hid ((HI2.out.below hb3).more hb3.size)
    have HB3 := Lib.hid (below2 HB2.out hb3 HB2.out.size)
    clear ha3 hb3
    go_wp2_with fail
    go_at_call 14
    refine (right_any A m c _ l w3 HI3.out).mono ?_
    rintro e w3' ⟨rfl, rfl⟩
    go_wp2_with fail
    go_at_call 15
    refine (refRight_any A m c _ l w3 HI3.out).mono ?_
    rintro e w4 ⟨rfl, hdr⟩
    have hb4 := below_drewn hdr
    have HI4 := Lib.hid ((HI3.out.below hb4).more hb4.size)
    have HB4 := Lib.hid (below2 HB3.out hb4 HB3.out.size)
    clear hdr hb4
    go_wp2_with (first | (go_at_call 16; refine (has_any A m c _ l x _ HI4.out).mono ?_; rintro e w5 ⟨rfl, rfl⟩) | (go_at_call 17; refine (refHas_any A m c _ l x _ HI4.out).mono ?_; rintro e w5 ⟨rfl, rfl⟩) | (go_at_call 18; refine (same_any none none 0 0 0 0 w4.heap.size w4.heap.size [] [] w4 Ints.nil_ Ints.nil_).mono ?_; rintro e w5 ⟨rfl, hdr5⟩))
    go_ret
    exact ⟨rfl, below2 HB4.out (below_drewn hdr5) HB4.out.size⟩
  | true =>
    obtain ⟨A2, n2, c2, r, rfl, hi2, hu2⟩ := ha.yes hs
    have HSS := Lib.hid hs
    have HU2 := Lib.hid (And.intro hi2 hu2)
    clear hs hb2 ha hi2 hu2
    go_wp2_with fail
    go_at_call 13
    refine (HA2.out).mono ?_
    rintro e w3 ⟨ha3, hb3⟩
    obtain ⟨A3, n3, c3, r3, rfl, hi3, hu3⟩ := ha3.yes HSS.out
    obtain rfl : r = r3 := HU2.out.2.unique hu3
    have HU3 := Lib.hid (And.intro hi3 ((HU2.out.1.below hb3).more hb3.size))
    have HI3 := Lib.hid ((HI2.out.below hb3).more hb3.size)
    have HB3 := Lib.hid (below2 HB2.out hb3 HB2.out.size)
    clear ha3 hb3 hi3 hu3
    go_wp2_with fail
    go_at_call 14
    refine (right_any A m c _ l w3 HI3.out).mono ?_
    rintro e w3' ⟨rfl, rfl⟩
    go_wp2_with fail
    go_at_call 15
    refine (refRight_any A m c _ l w3 HI3.out).mono ?_
    rintro e w4 ⟨rfl, hdr⟩
    have hb4 := below_drewn hdr
    have HI4 := Lib.hid ((HI3.out.below hb4).more hb4.size)
    have HB4 := Lib.hid (below2 HB3.out hb4 HB3.out.size)
    have HSm := Lib.hid (same_any A2 A3 n2 c2 n3 c3 _ _ r r w4 (HU3.out.2.below hb4) (HU3.out.1.below hb4))
    clear hdr hb4
    go_wp2_with (first | (go_at_call 16; refine (has_any A m c _ l x _ HI4.out).mono ?_; rintro e w5 ⟨rfl, rfl⟩) | (go_at_call 17; refine (refHas_any A m c _ l x _ HI4.out).mono ?_; rintro e w5 ⟨rfl, rfl⟩) | (go_at_call 18; refine (HSm.out).mono ?_; rintro e w5 ⟨rfl, hdr5⟩))
    go_ret
    exact ⟨rfl, below2 HB4.out (below_drewn hdr5) HB4.out.size⟩
end Go.Proofs.Ytpfmncdodcbamaa
