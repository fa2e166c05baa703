/- The law BitsDrains: its walk. -/
import Derived.Test.YtpfmncdodcbamaaLawAdds
import Derived.Test.YtpfmncdodcbamaaFoot
namespace Go.Proofs.Ytpfmncdodcbamaa
open Go.RowKit Go.Proofs

theorem own_far {w w' : World} {F : Nat → Prop} {base n : Nat} {v : Value} {xs : List Value} (h : w.ownsRow base 3 1 v n xs) (ho : Only F w w') (hn : ∀ j, v.ownBlock = some j → ¬ F j) : w'.ownsRow base 3 1 v n xs :=
  own_keep h (fun j e => ho.block j (h.lt j e).2 (hn j e))

/-- What is so between two rounds of the first loop. -/
def Took (w1 wr : World) (b k : Nat) (v : Value) (took : List Int) (F : Nat → Prop) : Prop :=
  IsF wr F b k took ∧ (∀ i, F i → w1.heap.size ≤ i) ∧ wr.ownsRow w1.heap.size 3 1 v took.length (took.map (Value.int .i64)) ∧ (∀ j, v.ownBlock = some j → ¬ F j) ∧ Below w1.heap.size w1 wr

theorem IsF.more {w : World} {F : Nat → Prop} {b k k' : Nat} {xs : List Int} (h : IsF w F b k xs) (hk : k ≤ k') : IsF w F b k' xs := by
  obtain ⟨m, A, n, c, D, h1, h2, h3, h4, h5⟩ := h
  exact ⟨m, A, n, c, D, h1, h2, h3, h4.mono hk, h5⟩
theorem IsF.allI64 {w : World} {F : Nat → Prop} {b k : Nat} {xs : List Int} (h : IsF w F b k xs) : ∀ x ∈ xs, I64 x := by
  obtain ⟨m, A, n, c, D, h1, h2, h3, h4, h5, h6, h7, _⟩ := h
  exact h7

set_option maxHeartbeats 4000000 in
theorem drains_walk (A : Option Addr) (n c : Nat) (l : List Int) (w : World) (hn : n ≤ c) (hc : c ≤ 9223372036854775807) (hr : Ints w w.heap.size A (min n 200) c l) :
    Calls Try.prog 9 #[.slice A n c] w fun e w' => e = .returned (.bool true) ∧ Below w.heap.size w w' := by
  obtain ⟨i0, hi, hz0, hz1, hz2⟩ := info_parts info3
  have HI := Lib.hid (And.intro hi (And.intro hz0 (And.intro hz1 hz2)))
  clear hi hz0 hz1 hz2
  have HS := Lib.hid (shown_any w)
  have hm200 : min n 200 ≤ 200 := by omega
  generalize hm : min n 200 = m at hr hm200
  have HR := Lib.hid hr
  have HCut := Lib.hid (fun (W : World) => by simpa [hm] using cut_any A n c W hn hc)
  clear hm hr
  go_enter Try.func9, Try.ntmps9
  go_wp2_with fail
  go_at_call 10
  refine (HS.out).mono ?_
  rintro e w1 ⟨rfl, hb1⟩
  have HI1 := Lib.hid (HR.out.below hb1)
  have HB1 := Lib.hid hb1
  clear hb1
  go_wp2_with fail
  go_at_call 11
  refine (HCut.out w1).mono ?_
  rintro e w1' ⟨rfl, rfl⟩
  go_wp2_with fail
  go_at_call 25
  refine (newf_any w1).mono ?_
  rintro e w2 ⟨rfl, hq2, hb2⟩
  have HQ2 := Lib.hid (And.intro hq2 hb2)
  clear hq2 hb2
  go_wp2_with fail
  go_loopw [5, 6] (fun s5 s6 wr => ∃ (k : Nat) (took : List Int) (F : Nat → Prop), k ≤ m ∧ s6 = .int .i64 k ∧ took.length ≤ k ∧ Took w1 wr (w1.heap.size + 1) k s5 took F) (fun _ s6 _ => m - (intOf s6).toNat)
  case atStart =>
    exact ⟨0, [], _, Nat.zero_le _, rfl, Nat.le_refl _, HQ2.out.1, fun i hi => hi.1, World.ownsRow_nil _ _ _ _, fun j e => by simp [Value.ownBlock] at e, HQ2.out.2⟩
  case round =>
    obtain ⟨k, took, F, hk, rfl, htl, hT⟩ := hrel
    have HT := Lib.hid hT
    clear hT
    have hsz := HT.out.2.2.2.2.size
    by_cases hlt : k < m
    · obtain ⟨ad, x, rfl, had, hz, hx, hc0⟩ := HI1.out.at_ hlt
      have hc : wr.cell? (ad.add k) = some (.int .i64 x) := (HT.out.2.2.2.2.cell (p := ad.add k) (by rw [add_block]; have := HB1.out.size; omega)).trans hc0
      clear hz
      by_cases hin : x ∈ took
      · have HP := Lib.hid (pushf_old F (w1.heap.size + 1) k x took wr hx HT.out.1 hin)
        clear hin
        go_wp2_with (go_at_call 27; (with_reducible refine (HP.out).mono ?_); rintro e w3 ⟨rfl, hq3, hb3⟩)
        go_roundw
        case rel => exact ⟨k + 1, took, F, by omega, by go_num, by omega, hq3.more (by omega), HT.out.2.1, own_far HT.out.2.2.1 (Only.of_below hb3) HT.out.2.2.2.1, HT.out.2.2.2.1, HT.out.2.2.2.2.trans (hb3.mono hsz)⟩
        case measure => simp [intOf]; omega
      · have HP := Lib.hid (pushf_new F (w1.heap.size + 1) k x took wr hx HT.out.1 hin (by unfold maxLen; omega) (by omega))
        clear hin
        go_wp2_with fail
        go_at_call 27
        (with_reducible refine (HP.out).mono ?_)
        rintro e w3 ⟨rfl, hq3, ho3⟩
        have hb3 : Below w1.heap.size wr w3 := ho3.below hsz HT.out.2.1
        have hc3 : w3.cell? (ad.add k) = some (.int .i64 x) := (hb3.cell (p := ad.add k) (by rw [add_block]; have := HB1.out.size; omega)).trans hc
        have hown3 := own_far HT.out.2.2.1 ho3 HT.out.2.2.2.1
        have hs3 := ho3.size
        have HQ3 := Lib.hid (And.intro hq3 (And.intro ho3 hb3))
        clear hq3 ho3 hb3
        go_wp2_with (at_builtin; refine wpList_append_own_at _ rfl _ _ 22 rfl w1.heap.size 3 i0 (.int .i64 0) 1 8 Try.underlying22 HI.out.1 HI.out.2.1 HI.out.2.2.1 HI.out.2.2.2 rfl (by decide) _ _ _ rfl (hown3.alloc _) ⟨w3.heap.size, 0, none⟩ 1 1 [.int .i64 x] rfl rfl (cell_one_new _ _ _) (by simp [Value.oneCell']) (by unfold maxLen; omega) (by omega) (by simp; omega) ?_; intro v4 w4 hown4 hg4 _ hat4)
        have ho4 := own_snoc hown4 rfl
        have hlt3 := HQ3.out.1.lt
        have hnf : ∀ j, u5.ownBlock = some j → ¬ ext F wr w3 j := fun j e hf => by
          rcases hf with hf | hf
          · exact HT.out.2.2.2.1 j e hf
          · have := (HT.out.2.2.1.lt j e).2
            omega
        have hq4 : IsF w4 (ext F wr w3) (w1.heap.size + 1) (k + 1) (took ++ [x]) := HQ3.out.1.keep (by have := hg4.size; simp at this; omega) (fun i hi => by
          have hil := hlt3 i hi
          refine (hg4.block i (by simp; omega) (fun e => hnf i e.symm hi)).trans (Below.heap_alloc w3 _ i hil))
        have hb4 : Below w1.heap.size w1 w4 := ((HT.out.2.2.2.2.trans HQ3.out.2.2).alloc (by omega) _).grown hg4 (by simp; omega) (fun j e => (HT.out.2.2.1.lt j e).1)
        go_roundw
        case rel => exact ⟨k + 1, took ++ [x], ext F wr w3, by omega, by go_num, by simp; omega, hq4, fun i hi => by
            rcases hi with hi | hi
            · exact HT.out.2.1 i hi
            · omega, ho4, fun j e hf => by
            rcases hat4 with h | h
            · rw [h] at e; exact hnf j e hf
            · rw [h] at e
              have := hlt3 j hf
              simp at e
              omega, hb4⟩
        case measure => simp [intOf]; omega
    · obtain ⟨A5, c5, rfl, _⟩ := ints_of_own HT.out.2.2.1 HT.out.1.allI64 (by omega)
      have htl2 : took.length ≤ 200 := by omega
      obtain ⟨wo, rfl⟩ : ∃ wo : World, wo = wr := ⟨_, rfl⟩
      go_wp2_with fail
      go_loopw [7] (fun s7 wq => ∃ (j : Nat), j ≤ took.length ∧ s7 = .int .i64 j ∧ IsF wq F (w1.heap.size + 1) k (took.drop j) ∧ wq.ownsRow w1.heap.size 3 1 (.slice A5 took.length c5) took.length (took.map (Value.int .i64)) ∧ Below w1.heap.size w1 wq) (fun s7 _ => took.length - (intOf s7).toNat)
      case atStart => exact ⟨0, Nat.zero_le _, rfl, HT.out.1, HT.out.2.2.1, HT.out.2.2.2.2⟩
      case round =>
        obtain ⟨j, hj, rfl, hq, hown, hbl⟩ := hrel
        have HQ := Lib.hid (And.intro hq (And.intro hown hbl))
        have hszq := hbl.size
        clear hq hown hbl
        by_cases hjl : j < took.length
        · have hd := drop_at (List.getElem?_eq_getElem hjl)
          have hcons := HQ.out.1
          rw [hd] at hcons
          generalize hx : took[j] = x at hcons hd
          have hgx : took[j]? = some x := by rw [List.getElem?_eq_getElem hjl, hx]
          have HP := Lib.hid (popf_cons F (w1.heap.size + 1) k x (took.drop (j + 1)) wr hcons)
          have HX := Lib.hid hgx
          clear hd hcons hx hgx
          go_wp2_with fail
          go_at_call 26
          (with_reducible refine (HP.out).mono ?_)
          rintro e w3 ⟨rfl, hq3, ho3⟩
          have hown3 := own_far HQ.out.2.1 ho3 HT.out.2.2.2.1
          obtain ⟨A6, c6, e6, hi6⟩ := ints_of_own hown3 HT.out.1.allI64 (by omega)
          injection e6 with e61 e62 e63
          subst e61 e63
          obtain ⟨ad6, x6, rfl, _, hx6, _, hc6⟩ := hi6.at_ hjl
          rw [HX.out] at hx6
          injection hx6 with hx6
          subst hx6
          have HQ3 := Lib.hid (And.intro hq3 (And.intro hown3 (ho3.below hszq HT.out.2.1)))
          clear hq3 hown3 ho3 hi6
          have hne : (x != x) = false := by simp
          go_wp2_with fail
          go_roundw
          case rel => exact ⟨j + 1, by omega, by go_num, HQ3.out.1, HQ3.out.2.1, HQ.out.2.2.trans HQ3.out.2.2⟩
          case measure => simp [intOf]; omega
        · have hq0 : IsF wr F (w1.heap.size + 1) k [] := by
            have := HQ.out.1
            rwa [List.drop_eq_nil_of_le (by omega)] at this
          have HP := Lib.hid (popf_empty F (w1.heap.size + 1) k wr hq0)
          have HL := Lib.hid (lenf_any F (w1.heap.size + 1) k [] wr hq0)
          clear hq0
          go_wp2_with (first | (go_at_call 26; (with_reducible refine (HP.out).mono ?_); rintro e w3 ⟨rfl, rfl⟩) | (go_at_call 28; (with_reducible refine (HL.out).mono ?_); rintro e w3 ⟨rfl, rfl⟩))
          go_ret
          exact ⟨rfl, below2 HB1.out HQ.out.2.2 HB1.out.size⟩
end Go.Proofs.Ytpfmncdodcbamaa
