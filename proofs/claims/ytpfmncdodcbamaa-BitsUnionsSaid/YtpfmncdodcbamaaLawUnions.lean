/- The law BitsUnions: its walk. -/
import Derived.Test.YtpfmncdodcbamaaLawAdds
namespace Go.Proofs.Ytpfmncdodcbamaa
open Go.RowKit Go.Proofs

theorem info22 : (Try.prog.info? 22).map (fun i => (i.zero, i.size, i.bytes)) = some (some (.slice none 0 0), 1, 24) := by kernel_rfl

/-- The slice of slices that came in: the first two hundred numbers of each. -/
def RowsIn (w : World) (A : Option Addr) (n : Nat) (css : List (List Int)) : Prop :=
  css.length = n ∧ (0 < n → ∃ ad, A = some ad ∧ ad.block < w.heap.size ∧ ∀ (j : Nat) (zs : List Int), css[j]? = some zs → ∃ (A' : Option Addr) (n' c' : Nat), w.cell? (ad.add j) = some (.slice A' n' c') ∧ n' ≤ c' ∧ c' ≤ 9223372036854775807 ∧ Ints w w.heap.size A' (min n' 200) c' zs)
theorem RowsIn.at_ {w : World} {A : Option Addr} {n k : Nat} {css : List (List Int)} (h : RowsIn w A n css) (hk : k < n) :
    ∃ ad A' n' c' zs, A = some ad ∧ ad.block < w.heap.size ∧ css[k]? = some zs ∧ w.cell? (ad.add k) = some (.slice A' n' c') ∧ n' ≤ c' ∧ c' ≤ 9223372036854775807 ∧ Ints w w.heap.size A' (min n' 200) c' zs := by
  obtain ⟨h1, h2⟩ := h
  obtain ⟨ad, e, hb, hc⟩ := h2 (by omega)
  have hl : k < css.length := by omega
  obtain ⟨A', n', c', g1, g2, g3, g4⟩ := hc k _ (List.getElem?_eq_getElem hl)
  exact ⟨ad, A', n', c', _, e, hb, List.getElem?_eq_getElem hl, g1, g2, g3, g4⟩

/-- A row of slices that were cut. -/
def Cuts (w : World) (vals : List Value) (css : List (List Int)) : Prop :=
  vals.length = css.length ∧ ∀ (j : Nat) (zs : List Int), css[j]? = some zs → ∃ (A' : Option Addr) (n' c' : Nat), vals[j]? = some (Value.slice A' n' c') ∧ Ints w w.heap.size A' n' c' zs
theorem Cuts.snoc {w : World} {vals : List Value} {css : List (List Int)} (h : Cuts w vals css) {A' : Option Addr} {n' c' : Nat} {zs : List Int} (hi : Ints w w.heap.size A' n' c' zs) : Cuts w (vals ++ [Value.slice A' n' c']) (css ++ [zs]) := by
  obtain ⟨h1, h2⟩ := h
  refine ⟨by simp [h1], fun j q hj => ?_⟩
  have hjl := (List.getElem?_eq_some_iff.1 hj).1
  rw [List.length_append, List.length_singleton] at hjl
  by_cases hjn : j < css.length
  · rw [List.getElem?_append_left hjn] at hj
    rw [List.getElem?_append_left (by omega)]
    exact h2 j q hj
  · obtain rfl : j = css.length := by omega
    rw [List.getElem?_append_right (Nat.le_refl _)] at hj
    simp at hj
    subst hj
    rw [List.getElem?_append_right (by omega), h1]
    exact ⟨A', n', c', by simp, hi⟩
theorem mat_of_own {w0 w : World} {base k : Nat} {v : Value} {vals : List Value} {css : List (List Int)} (h : w.ownsRow base 22 1 v k vals) (hc : Cuts w0 vals css) (hb : Below w0.heap.size w0 w) (hk : k ≤ 281474976710656) :
    ∃ A c, v = .slice A k c ∧ Mat w w.heap.size A k c css := by
  have hl : vals.length = k := by have := h.1; omega
  rcases h.2 with ⟨rfl, rfl⟩ | ⟨g, cap, cur, rfl, hbg, hg, hc1, hc2, _⟩
  · obtain rfl : css = [] := List.eq_nil_of_length_eq_zero (by rw [← hc.1]; exact hl)
    exact ⟨none, 0, rfl, Mat.nil_⟩
  · refine ⟨_, cap, rfl, by rw [← hc.1, hl], hc1, ⟨hk, by unfold maxLen at hc2; omega⟩, fun _ => ⟨_, rfl, (Array.getElem?_eq_some_iff.1 hg).1, fun j zs hj => ?_⟩⟩
    obtain ⟨A', n', c', e1, e2⟩ := hc.2 j zs hj
    exact ⟨A', n', c', h.cells (g := g) rfl j _ e1, (e2.below hb).more hb.size⟩

set_option maxHeartbeats 2000000 in
theorem unions_walk (A : Option Addr) (n c : Nat) (css : List (List Int)) (w : World) (hr : RowsIn w A n css) :
    Calls Try.prog 4 #[.slice A n c] w fun e w' => e = .returned (.bool true) ∧ Below w.heap.size w w' := by
  have HS := Lib.hid (shown_any w)
  obtain ⟨i0, hi, hz0, hz1, hz2⟩ := info_parts info22
  have HI := Lib.hid (And.intro hi (And.intro hz0 (And.intro hz1 hz2)))
  clear hi hz0 hz1 hz2
  go_enter Try.func4, Try.ntmps4
  go_wp2_with fail
  go_at_call 10
  refine (HS.out).mono ?_
  rintro e w1 ⟨rfl, hb1⟩
  have HB1 := Lib.hid hb1
  clear hb1
  go_wp2_with fail
  go_loopw [4, 5] (fun s4 s5 wr => ∃ (k : Nat) (vals : List Value), k ≤ n ∧ k ≤ 10 ∧ s5 = .int .i64 k ∧ wr.ownsRow w1.heap.size 22 1 s4 k vals ∧ Cuts w vals (css.take k) ∧ Below w1.heap.size w1 wr)
    (fun _ s5 _ => n - (intOf s5).toNat)
  case atStart => exact ⟨0, [], Nat.zero_le _, by omega, rfl, World.ownsRow_nil _ _ _ _, ⟨by simp, by simp⟩, Below.refl _ _⟩
  case round =>
    obtain ⟨k, vals, hk, hk10, rfl, hown, hcut, hbl⟩ := hrel
    have HC := Lib.hid hcut
    have hsz := hbl.size
    clear hcut
    by_cases hgo : k < n ∧ k < 10
    · obtain ⟨hlt, hlt10⟩ := hgo
      obtain ⟨ad, A', n', c', zs, rfl, had, hz, hc0, g2, g3, g4⟩ := hr.at_ hlt
      have hcell : wr.cell? (ad.add k) = some (.slice A' n' c') := (hbl.cell (p := ad.add k) (by rw [add_block]; have := HB1.out.size; omega)).trans ((HB1.out.cell (p := ad.add k) (by rw [add_block]; exact had)).trans hc0)
      have HZ := Lib.hid (And.intro hz g4)
      have HCut := Lib.hid (cut_any A' n' c' wr g2 g3)
      generalize hm : min n' 200 = m at HCut HZ
      clear hz g4 hc0 hm
      go_wp2_with (first
        | (go_at_call 11; refine (HCut.out).mono ?_; rintro e w' ⟨rfl, rfl⟩)
        | (at_builtin; refine wpList_append_own _ rfl _ _ 31 rfl w1.heap.size 22 i0 (.slice none 0 0) 1 24 Try.underlying31 HI.out.1 HI.out.2.1 HI.out.2.2.1 HI.out.2.2.2 rfl (by decide) _ _ _ rfl (hown.alloc _) ⟨wr.heap.size, 0, none⟩ 1 1 [.slice A' m c'] rfl rfl (cell_one_new _ _ _) (by simp [Value.oneCell']) (by unfold maxLen; omega) (by omega) (by simp; omega) ?_; intro v1 w2 hown1 hg1 _))
      have hb2 : Below w1.heap.size w1 w2 := (hbl.alloc hbl.size _).grown hg1 (by simp; omega) (fun j e => (hown.lt j e).1)
      go_roundw
      case rel => exact ⟨k + 1, _, by omega, by omega, by go_num, hown1, by rw [List.take_add_one, HZ.out.1]; exact HC.out.snoc HZ.out.2, hb2⟩
      case measure => simp [intOf]; omega
    · obtain ⟨A1, c1, rfl, hmat⟩ := mat_of_own hown HC.out (HB1.out.trans (hbl.mono HB1.out.size)) (by omega)
      have HU := Lib.hid (union_any A1 k c1 (css.take k) wr hmat)
      have HM := Lib.hid hmat
      have HBw := Lib.hid (HB1.out.trans (hbl.mono HB1.out.size))
      generalize css.take k = ds at HU HM
      clear hmat hown
      have hstop : n ≤ k ∨ (k < n ∧ 10 ≤ k) := by omega
      clear hgo
      rcases hstop with hs | ⟨hs, hs'⟩
      all_goals
        go_wp2_with fail
        go_at_call 19
        refine (HU.out).mono ?_
        rintro e w2 ⟨hu, hb2⟩
        have HRf := Lib.hid (refUnion_any A1 k c1 ds w2 ((HM.out.below hb2).more hb2.size))
        have HB2 := Lib.hid (below2 HBw.out hb2 HBw.out.size)
        cases hset : ds.all isSet with
        | false =>
          obtain rfl := hu.no hset
          have HT := Lib.hid hset
          clear hu hb2 hset
          go_wp2_with fail
          go_at_call 20
          refine (HRf.out).mono ?_
          rintro e w3 ⟨hu3, hb3⟩
          rw [HT.out] at hu3
          obtain rfl : e = .returned (.tuple #[.slice none 0 0, .int .i64 2]) := hu3
          have HB3 := Lib.hid (below2 HB2.out hb3 HB2.out.size)
          clear hb3
          go_wp2_with (go_at_call 18; refine (same_any none none 0 0 0 0 w3.heap.size w3.heap.size [] [] w3 Ints.nil_ Ints.nil_).mono ?_; rintro e w5 ⟨rfl, hdr5⟩)
          go_ret
          exact ⟨rfl, below2 HB3.out (below_drewn hdr5) HB3.out.size⟩
        | true =>
          obtain ⟨A2, n2, c2, r, rfl, hi2, hu2⟩ := hu.yes hset
          have HT := Lib.hid hset
          have HU2 := Lib.hid (And.intro ((hi2 : Ints w2 w2.heap.size A2 n2 c2 r)) hu2)
          clear hu hb2 hset hi2 hu2
          go_wp2_with fail
          go_at_call 20
          refine (HRf.out).mono ?_
          rintro e w3 ⟨hu3, hb3⟩
          rw [HT.out] at hu3
          obtain ⟨A3, n3, c3, r3, rfl, hi3, hu3'⟩ : ∃ A2 n2 c2 r, e = .returned (.tuple #[.slice A2 n2 c2, .int .i64 0]) ∧ Ints w3 w3.heap.size A2 n2 c2 r ∧ UniOf r ds := hu3
          obtain rfl : r = r3 := HU2.out.2.unique hu3'
          have HSm := Lib.hid (same_any A2 A3 n2 c2 n3 c3 _ _ r r w3 (HU2.out.1.below hb3) hi3)
          have HB3 := Lib.hid (below2 HB2.out hb3 HB2.out.size)
          clear hb3 hi3 hu3'
          go_wp2_with (go_at_call 18; refine (HSm.out).mono ?_; rintro e w5 ⟨rfl, hdr5⟩)
          go_ret
          exact ⟨rfl, below2 HB3.out (below_drewn hdr5) HB3.out.size⟩
end Go.Proofs.Ytpfmncdodcbamaa
