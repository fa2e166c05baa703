/- slices.BinarySearchFunc of edges, by the function that they are from. -/
import Derived.Test.YtfiockconbaniaaGrCollect
namespace Go.Proofs.Ytfiockconbaniaa
set_option linter.unusedSimpArgs false
set_option linter.unusedVariables false
open Go.RowKit Go.Proofs Go.Lib Go.Sort

set_option maxHeartbeats 1000000 in
theorem from_any (x : Ed) (fn : Int) (W : World) : Calls Try.prog 38 #[.agg #[.int .i64 x.fr, .int .i64 x.mark, .int .i64 x.to], .int .i64 fn] W fun e w' => e = .returned (.int .i64 (compareInt x.fr fn)) ∧ Below W.heap.size W w' := by
  have hal : Below W.heap.size W (W.alloc (.cells #[.int .i64 x.fr, .int .i64 x.mark, .int .i64 x.to] 44)) := (Below.refl _ _).alloc (Nat.le_refl _) _
  have c1 := fun w => Try.cmp_Compare_int x.fr fn w
  obtain ⟨q1, e1⟩ : ∃ q, compareInt x.fr fn = q := ⟨_, rfl⟩
  rw [e1] at c1 ⊢
  have C1 := Lib.hid c1
  have HB := Lib.hid hal
  clear c1 e1 hal
  go_enter Try.func38, Try.ntmps38
  go_wp2_with (go_at_call 50; refine (C1.out _).mono ?_; rintro e w1 ⟨rfl, rfl⟩)
  go_ret
  exact ⟨rfl, HB.out⟩
theorem cmp_neg (x y : Int) : compareInt x y < 0 ↔ x < y := by
  unfold compareInt
  split
  · omega
  · split <;> omega
/-- Where those from a function begin. -/
structure CutAt (l : List Ed) (fn : Int) (lo hi : Nat) : Prop where
  low : ∀ (t : Nat) (x : Ed), t < lo → l[t]? = some x → x.fr < fn
  high : ∀ (t : Nat) (x : Ed), hi ≤ t → l[t]? = some x → fn ≤ x.fr
set_option maxRecDepth 100000 in
set_option maxHeartbeats 4000000 in
theorem search_any (A : Option Addr) (n c : Nat) (l : List Ed) (fn : Int) (w : World) (hr : Edges9 w (.slice A n c) l) (hs : l.Pairwise fun x y => x.fr ≤ y.fr) (hn : n ≤ 100000) :
    Calls Try.prog 37 #[.slice A n c, .int .i64 fn, .func (.func 38) #[] #[]] w fun e w' => ∃ (k : Nat) (b : Bool), e = .returned (.tuple #[.int .i64 k, .bool b]) ∧ k ≤ n ∧ CutAt l fn k k ∧ Below w.heap.size w w' := by
  obtain ⟨hnl, hnc, hcm, -⟩ := SlAt.get hr
  have hcx : c ≤ 9223372036854775807 := hcm
  have HL := Lib.hid hnl.symm
  have M := Lib.hid (show ∀ (a b : Nat) (x y : Ed), a ≤ b → l[a]? = some x → l[b]? = some y → x.fr ≤ y.fr from fun a b x y hab hx hy => by
    by_cases e : a = b
    · subst e
      rw [hx] at hy
      cases hy
      omega
    · obtain ⟨h1, rfl⟩ := List.getElem?_eq_some_iff.1 hx
      obtain ⟨h2, rfl⟩ := List.getElem?_eq_some_iff.1 hy
      exact List.pairwise_iff_getElem.1 hs a b h1 h2 (by omega))
  clear hnl hcm hs
  go_enter Try.func37, Try.ntmps37
  go_wp2
  go_loopg [9, 10] n (fun kx s9 s10 wr => ∃ lo hi : Nat, s9 = .int .i64 lo ∧ s10 = .int .i64 hi ∧ lo ≤ hi ∧ hi ≤ n ∧ hi - lo ≤ kx ∧ RowKit.Hid (Below w.heap.size w wr ∧ CutAt l fn lo hi))
  case atStart => exact ⟨0, n, rfl, rfl, Nat.zero_le _, Nat.le_refl _, by omega, Lib.hid ⟨Below.refl _ _, ⟨fun t x h => absurd h (Nat.not_lt_zero _), fun t x h1 h2 => by
    have := (List.getElem?_eq_some_iff.1 h2).1
    have := HL.out
    omega⟩⟩⟩
  case round =>
    obtain ⟨lo, hi, rfl, rfl, hlh, hin, hg, I⟩ := hrel
    by_cases hlt : lo < hi
    · obtain ⟨g, off, x, rfl, hgl, hx, -, d0, d1, d2⟩ := ed_get hr ((lo + hi) / 2) (by omega)
      have x0 := (I.out.1.cell (p := ⟨g, off + (lo + hi) / 2 * 3, none⟩) hgl).trans d0
      have x1 := (I.out.1.cell (p := ⟨g, off + (lo + hi) / 2 * 3 + 1, none⟩) hgl).trans d1
      have x2 := (I.out.1.cell (p := ⟨g, off + (lo + hi) / 2 * 3 + 2, none⟩) hgl).trans d2
      have hc := from_any x fn wr
      have hz := I.out.1.size
      have X := Lib.hid hx
      have hc0 := cmp_neg x.fr fn
      generalize compareInt x.fr fn = q at hc hc0
      have HC := Lib.hid hc
      clear hc hx d0 d1 d2
      by_cases hyx : x.fr < fn
      · have g1 : q < 0 := hc0.2 hyx
        have Y := Lib.hid hyx
        clear hyx hc0
        go_wp2_with (go_at_call 38; refine HC.out.mono ?_; rintro e w1 ⟨rfl, h1⟩; have H1 := Lib.hid h1; clear h1)
        go_roundg (hi - ((lo + hi) / 2 + 1))
        case measure => omega
        case rel => exact ⟨(lo + hi) / 2 + 1, hi, by rw [show ((lo : Int) + (hi : Int)) / 2 + 1 = (((lo + hi) / 2 + 1 : Nat) : Int) by omega], rfl, by omega, hin, Nat.le_refl _, Lib.hid ⟨I.out.1.trans (H1.out.mono hz), ⟨fun t y ht hy => by have := M.out t _ y x (by omega) hy X.out; have := Y.out; omega, I.out.2.high⟩⟩⟩
      · have g1 : ¬ q < 0 := fun h => hyx (hc0.1 h)
        have Y := Lib.hid hyx
        clear hyx hc0
        go_wp2_with (go_at_call 38; refine HC.out.mono ?_; rintro e w1 ⟨rfl, h1⟩; have H1 := Lib.hid h1; clear h1)
        go_roundg ((lo + hi) / 2 - lo)
        case measure => omega
        case rel => exact ⟨lo, (lo + hi) / 2, rfl, by rw [show ((lo : Int) + (hi : Int)) / 2 = (((lo + hi) / 2 : Nat) : Int) by omega], by omega, by omega, Nat.le_refl _, Lib.hid ⟨I.out.1.trans (H1.out.mono hz), ⟨I.out.2.low, fun t y ht hy => by have := M.out _ t x y ht X.out hy; have := Y.out; omega⟩⟩⟩
    · obtain rfl : hi = lo := by omega
      by_cases hn' : hi < n
      · obtain ⟨g, off, x, rfl, hgl, hx, -, d0, d1, d2⟩ := ed_get hr hi hn'
        have x0 := (I.out.1.cell (p := ⟨g, off + hi * 3, none⟩) hgl).trans d0
        have x1 := (I.out.1.cell (p := ⟨g, off + hi * 3 + 1, none⟩) hgl).trans d1
        have x2 := (I.out.1.cell (p := ⟨g, off + hi * 3 + 2, none⟩) hgl).trans d2
        have hc := from_any x fn wr
        have hz := I.out.1.size
        generalize compareInt x.fr fn = q at hc
        have HC := Lib.hid hc
        clear hc hx d0 d1 d2
        by_cases hq : q = 0
        · have g1 : (q == 0) = true := by simpa using hq
          clear hq
          go_wp2_with (go_at_call 38; refine HC.out.mono ?_; rintro e w1 ⟨rfl, h1⟩; have H1 := Lib.hid h1; clear h1)
          go_ret2
          exact ⟨hi, true, rfl, hin, I.out.2, I.out.1.trans (H1.out.mono hz)⟩
        · have g1 : (q == 0) = false := by simpa using hq
          clear hq
          go_wp2_with (go_at_call 38; refine HC.out.mono ?_; rintro e w1 ⟨rfl, h1⟩; have H1 := Lib.hid h1; clear h1)
          go_ret2
          exact ⟨hi, false, rfl, hin, I.out.2, I.out.1.trans (H1.out.mono hz)⟩
      · go_wp2
        go_ret2
        exact ⟨hi, false, rfl, hin, I.out.2, I.out.1⟩
end Go.Proofs.Ytfiockconbaniaa
