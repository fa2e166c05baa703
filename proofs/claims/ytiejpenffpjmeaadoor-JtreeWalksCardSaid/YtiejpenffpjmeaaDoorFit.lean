/- jtree.shape.fits. -/
import Derived.Test.YtiejpenffpjmeaaDoorAllows
import Derived.StillTailTactics
namespace Go.Proofs.YtiejpenffpjmeaaDoor
open Go.RowKit Go.Proofs

set_option maxRecDepth 100000 in
set_option maxHeartbeats 4000000 in
theorem fits_any (sh : Sh) (t : Tr) (v : Value) (w : World) (ht : At w w.heap.size t v) :
    Calls Tryd.prog 37 #[shV sh, v] w fun e w' => e = .returned (.bool (fitsB sh t)) ∧ Below w.heap.size w w' := by
  obtain ⟨k, num, lo, hi⟩ := sh
  rw [At_iff] at ht
  obtain ⟨u, rfl, ⟨A, cap, rfl, hc, ha⟩, hf⟩ := ht
  have HA := Lib.hid ha
  have HF : fitsB (k, num, lo, hi) t = (allowsB k t.s && (decide (0 ≤ t.n) && (decide (t.n ≤ num) && (decide (lo ≤ t.l.length) && (decide ((t.l.length : Int) ≤ hi) && partsB t.op t.l.length 0 t.l))))) := rfl
  have HC := fun w => allows_any k t.s w hf.1
  unfold nodeV shV
  obtain ⟨r, er⟩ : ∃ r, fitsB (k, num, lo, hi) t = r := ⟨_, rfl⟩
  obtain ⟨al, ea⟩ : ∃ r, allowsB k t.s = r := ⟨_, rfl⟩
  obtain ⟨n, en⟩ : ∃ r, t.n = r := ⟨_, rfl⟩
  obtain ⟨op, eo⟩ : ∃ r, t.op = r := ⟨_, rfl⟩
  obtain ⟨l, el⟩ : ∃ r, t.l = r := ⟨_, rfl⟩
  obtain ⟨len, ele⟩ : ∃ r, l.length = r := ⟨_, rfl⟩
  rw [er, ea, en, eo, el, ele] at HF
  rw [el] at HA hc
  rw [ele] at HA hc
  rw [er, en, eo, el, ele]
  rw [ea] at HC
  have HC := Lib.hid HC
  have HL := Lib.hid ele
  unfold maxLen at hc
  obtain ⟨hc1, hc2⟩ := hc
  clear er ea en eo el ele ha hf
  have main : ∀ (al' : Bool), al = al' → Calls Tryd.prog 37 #[.agg #[.int .i64 k, .int .i64 num, .int .i64 lo, .int .i64 hi], .agg #[.int .i64 op, .string (bs t.s), .int .i64 n, .slice A len cap, .int .i64 t.line]] w fun e w' => e = .returned (.bool r) ∧ Below w.heap.size w w' := by
    intro al' e
    subst e
    have boxes : ∀ (W W' : World), ((w.alloc (.cells #[.int .i64 k, .int .i64 num, .int .i64 lo, .int .i64 hi] 53)).alloc (.cells #[.int .i64 op, .string (bs t.s), .int .i64 n, .slice A len cap, .int .i64 t.line] 24)) = W → Below W.heap.size W W' →
        (W.heap.size = w.heap.size + 2 ∧ Below w.heap.size w W ∧ Below w.heap.size w W') ∧ (W'.cell? ⟨w.heap.size, 0, none⟩ = some (.int .i64 k) ∧ W'.cell? ⟨w.heap.size, 1, none⟩ = some (.int .i64 num) ∧ W'.cell? ⟨w.heap.size, 2, none⟩ = some (.int .i64 lo) ∧ W'.cell? ⟨w.heap.size, 3, none⟩ = some (.int .i64 hi)) ∧
        (W'.cell? ⟨w.heap.size + 1, 0, none⟩ = some (.int .i64 op) ∧ W'.cell? ⟨w.heap.size + 1, 2, none⟩ = some (.int .i64 n) ∧ W'.cell? ⟨w.heap.size + 1, 3, none⟩ = some (.slice A len cap)) := by
      rintro W W' rfl h
      have hb : Below w.heap.size w ((w.alloc (.cells #[.int .i64 k, .int .i64 num, .int .i64 lo, .int .i64 hi] 53)).alloc (.cells #[.int .i64 op, .string (bs t.s), .int .i64 n, .slice A len cap, .int .i64 t.line] 24)) := ((Below.refl _ w).alloc (Nat.le_refl _) _).alloc (by simp) _
      have hc : ∀ (j : Nat) (o : Nat) (x : Value), (j = w.heap.size ∨ j = w.heap.size + 1) → ((w.alloc (.cells #[.int .i64 k, .int .i64 num, .int .i64 lo, .int .i64 hi] 53)).alloc (.cells #[.int .i64 op, .string (bs t.s), .int .i64 n, .slice A len cap, .int .i64 t.line] 24)).cell? ⟨j, o, none⟩ = some x → W'.cell? ⟨j, o, none⟩ = some x := fun j o x hj hx => (h.cell (p := ⟨j, o, none⟩) (by simp; omega)).trans hx
      refine ⟨⟨by simp, hb, hb.trans (h.mono (by simp; omega))⟩, ⟨hc _ _ _ (.inl rfl) (by go_simp), hc _ _ _ (.inl rfl) (by go_simp), hc _ _ _ (.inl rfl) (by go_simp), hc _ _ _ (.inl rfl) (by go_simp)⟩, ⟨hc _ _ _ (.inr rfl) (by go_simp), hc _ _ _ (.inr rfl) (by go_simp), hc _ _ _ (.inr rfl) (by go_simp)⟩⟩
    have HB := Lib.hid boxes
    clear boxes
    cases al with
    | false =>
      have HR := Lib.hid (show r = false by rw [HF]; simp)
      clear HF
      go_enter Tryd.func37, Tryd.ntmps37
      go_wp2_with (go_at_call 61; refine (HC.out _).mono ?_; rintro e w1 ⟨rfl, hb⟩; obtain ⟨⟨hz, hbw, hb1⟩, ⟨c0, c1, c2, c3⟩, ⟨d0, d2, d3⟩⟩ := HB.out _ _ rfl hb)
      go_ret
      exact ⟨ret_b HR.out.symm, hb1⟩
    | true =>
      by_cases h1 : 0 ≤ n
      case neg =>
        have HR := Lib.hid (show r = false by rw [HF]; simp [h1])
        have g1 : n < 0 := by omega
        clear HF h1
        go_enter Tryd.func37, Tryd.ntmps37
        go_wp2_with (go_at_call 61; refine (HC.out _).mono ?_; rintro e w1 ⟨rfl, hb⟩; obtain ⟨⟨hz, hbw, hb1⟩, ⟨c0, c1, c2, c3⟩, ⟨d0, d2, d3⟩⟩ := HB.out _ _ rfl hb)
        go_ret
        exact ⟨ret_b HR.out.symm, hb1⟩
      by_cases h2 : n ≤ num
      case neg =>
        have HR := Lib.hid (show r = false by rw [HF]; simp [h2])
        have g1 : ¬ n < 0 := by omega
        have g2 : num < n := by omega
        clear HF h1 h2
        go_enter Tryd.func37, Tryd.ntmps37
        go_wp2_with (go_at_call 61; refine (HC.out _).mono ?_; rintro e w1 ⟨rfl, hb⟩; obtain ⟨⟨hz, hbw, hb1⟩, ⟨c0, c1, c2, c3⟩, ⟨d0, d2, d3⟩⟩ := HB.out _ _ rfl hb)
        go_ret
        exact ⟨ret_b HR.out.symm, hb1⟩
      by_cases h3 : lo ≤ len
      case neg =>
        have HR := Lib.hid (show r = false by rw [HF]; simp [h3])
        have g1 : ¬ n < 0 := by omega
        have g2 : ¬ num < n := by omega
        have g3 : (len : Int) < lo := by omega
        clear HF h1 h2 h3
        go_enter Tryd.func37, Tryd.ntmps37
        go_wp2_with (go_at_call 61; refine (HC.out _).mono ?_; rintro e w1 ⟨rfl, hb⟩; obtain ⟨⟨hz, hbw, hb1⟩, ⟨c0, c1, c2, c3⟩, ⟨d0, d2, d3⟩⟩ := HB.out _ _ rfl hb)
        go_ret
        exact ⟨ret_b HR.out.symm, hb1⟩
      by_cases h4 : (len : Int) ≤ hi
      case neg =>
        have HR := Lib.hid (show r = false by rw [HF]; simp [h4])
        have g1 : ¬ n < 0 := by omega
        have g2 : ¬ num < n := by omega
        have g3 : ¬ (len : Int) < lo := by omega
        have g4 : hi < len := by omega
        clear HF h1 h2 h3 h4
        go_enter Tryd.func37, Tryd.ntmps37
        go_wp2_with (go_at_call 61; refine (HC.out _).mono ?_; rintro e w1 ⟨rfl, hb⟩; obtain ⟨⟨hz, hbw, hb1⟩, ⟨c0, c1, c2, c3⟩, ⟨d0, d2, d3⟩⟩ := HB.out _ _ rfl hb)
        go_ret
        exact ⟨ret_b HR.out.symm, hb1⟩
      have HR := Lib.hid (show r = partsB op len 0 l by rw [HF]; simp [h1, h2, h3, h4])
      have g1 : ¬ n < 0 := by omega
      have g2 : ¬ num < n := by omega
      have g3 : ¬ (len : Int) < lo := by omega
      have g4 : ¬ hi < len := by omega
      clear HF h1 h2 h3 h4
      go_enter Tryd.func37, Tryd.ntmps37
      go_wp2_with (go_at_call 61; refine (HC.out _).mono ?_; rintro e w1 ⟨rfl, hb⟩; obtain ⟨⟨hz, hbw, hb1⟩, ⟨c0, c1, c2, c3⟩, ⟨d0, d2, d3⟩⟩ := HB.out _ _ rfl hb)
      clear c0 c1 c2 c3 d2
      go_loopw [44] (fun i wr => ∃ k : Nat, k ≤ len ∧ i = .int .i64 k ∧ (∀ (j : Nat) x, j < k → l[j]? = some x → hasB (wantedB op j len) x.op = true) ∧ Below w1.heap.size w1 wr) (fun i _ => len - (intOf i).toNat)
      case atStart => exact ⟨0, Nat.zero_le _, rfl, fun _ _ h => absurd h (by omega), Below.refl _ _⟩
      case round =>
        obtain ⟨k, hk, rfl, hpre, hB⟩ := hrel
        have HP := Lib.hid hpre
        clear hpre
        have hs1 := hb.size
        have e0 := (hB.cell (p := ⟨w.heap.size + 1, 0, none⟩) (by simp; omega)).trans d0
        have e3 := (hB.cell (p := ⟨w.heap.size + 1, 3, none⟩) (by simp; omega)).trans d3
        have hbr := hb1.trans (hB.mono hb1.size)
        by_cases hlt : k < len
        · obtain ⟨ga, fa, rfl, hga, HA⟩ := HA.out (by omega)
          obtain ⟨x, ex⟩ : ∃ x, l[k]? = some x := ⟨_, List.getElem?_eq_getElem (by rw [HL.out]; exact hlt)⟩
          obtain ⟨vx, hx, x0, x1, x2, x3, x4⟩ := AtL.get l k x (AtL.keep (W' := wr) (n' := w.heap.size) l HA hga (Nat.le_refl _) fun _ hp => hbr.cell hp) ex
          have hvs : ∃ A c, vx = .slice A x.l.length c := by
            rw [At_iff] at hx
            obtain ⟨u', e', ⟨A', c', rfl, _⟩, _⟩ := hx
            unfold nodeV at e'
            simp at e'
            exact ⟨A', c', e'⟩
          obtain ⟨Ax, cx, rfl⟩ := hvs
          have EX := Lib.hid ex
          have HW := Lib.hid (fun w => wanted_any op k len w (by omega) (by omega))
          have HH := Lib.hid (fun w => has_any (wantedB op k len) x.op w)
          obtain ⟨g, eg⟩ : ∃ g, wantedB op k len = g := ⟨_, rfl⟩
          obtain ⟨q, eq⟩ : ∃ q, hasB g x.op = q := ⟨_, rfl⟩
          rw [eg] at HW HH
          rw [eq] at HH
          have HG := Lib.hid (And.intro eg eq)
          clear HA hx ex eg eq
          cases q with
          | true =>
            go_wp2
            obtain ⟨W3, hW3⟩ : ∃ y, (wr.alloc (.cells #[.int .i64 x.op, .string (bs x.s), .int .i64 x.n, .slice Ax x.l.length cx, .int .i64 x.line] 24)) = y := ⟨_, rfl⟩
            obtain ⟨hb3, f0, f3, y0⟩ : Below wr.heap.size wr W3 ∧ W3.cell? ⟨w.heap.size + 1, 0, none⟩ = some (.int .i64 op) ∧ W3.cell? ⟨w.heap.size + 1, 3, none⟩ = some (.slice (some ⟨ga, fa, none⟩) len cap) ∧ W3.cell? ⟨wr.heap.size, 0, none⟩ = some (.int .i64 x.op) := by
              subst hW3
              have hlt : w.heap.size + 1 < wr.heap.size := by have := hB.size; simp at hs1; omega
              exact ⟨(Below.refl _ wr).alloc (Nat.le_refl _) _, (World.cell?_alloc_lt wr _ ⟨w.heap.size + 1, 0, none⟩ hlt).trans e0, (World.cell?_alloc_lt wr _ ⟨w.heap.size + 1, 3, none⟩ hlt).trans e3, by go_simp⟩
            rw [hW3]
            clear hW3
            go_quiet (first | (go_at_call 62; exact Calls.quiet_of_same ((HW.out _).mono fun e w' h => ⟨h.1, h.2.symm⟩)) | (go_at_call 27; exact Calls.quiet_of_same ((HH.out _).mono fun e w' h => ⟨h.1, h.2.symm⟩)))
            go_wp2
            go_roundw
            case rel => exact ⟨k + 1, by omega, by go_num, fun j y hj hy => by
              by_cases hjk : j < k
              · exact HP.out j y hjk hy
              · obtain rfl : j = k := by omega
                rw [EX.out] at hy
                cases hy
                rw [HG.out.1]
                exact HG.out.2, hB.trans ((hb3.trans ((Drewn.below ⟨_, rfl⟩ : Below W3.heap.size W3 (W3.drewN nq)).mono hb3.size)).mono hB.size)⟩
            case measure => simp [intOf]; omega
          | false =>
            go_wp2
            obtain ⟨W3, hW3⟩ : ∃ y, (wr.alloc (.cells #[.int .i64 x.op, .string (bs x.s), .int .i64 x.n, .slice Ax x.l.length cx, .int .i64 x.line] 24)) = y := ⟨_, rfl⟩
            obtain ⟨hb3, f0, f3, y0⟩ : Below wr.heap.size wr W3 ∧ W3.cell? ⟨w.heap.size + 1, 0, none⟩ = some (.int .i64 op) ∧ W3.cell? ⟨w.heap.size + 1, 3, none⟩ = some (.slice (some ⟨ga, fa, none⟩) len cap) ∧ W3.cell? ⟨wr.heap.size, 0, none⟩ = some (.int .i64 x.op) := by
              subst hW3
              have hlt : w.heap.size + 1 < wr.heap.size := by have := hB.size; simp at hs1; omega
              exact ⟨(Below.refl _ wr).alloc (Nat.le_refl _) _, (World.cell?_alloc_lt wr _ ⟨w.heap.size + 1, 0, none⟩ hlt).trans e0, (World.cell?_alloc_lt wr _ ⟨w.heap.size + 1, 3, none⟩ hlt).trans e3, by go_simp⟩
            rw [hW3]
            clear hW3
            go_quiet (first | (go_at_call 62; exact Calls.quiet_of_same ((HW.out _).mono fun e w' h => ⟨h.1, h.2.symm⟩)) | (go_at_call 27; exact Calls.quiet_of_same ((HH.out _).mono fun e w' h => ⟨h.1, h.2.symm⟩)))
            go_wp2
            go_ret
            exact ⟨ret_b (by
              rw [HR.out]
              cases hh : partsB op len 0 l with
              | false => rfl
              | true =>
                have := (partsB_get l 0).1 hh k x EX.out
                rw [Int.zero_add, HG.out.1, HG.out.2] at this
                cases this), hbr.trans ((hb3.trans ((Drewn.below ⟨_, rfl⟩ : Below W3.heap.size W3 (W3.drewN nq)).mono hb3.size)).mono hbr.size)⟩
        · obtain rfl : k = len := by omega
          go_wp2
          go_ret
          exact ⟨ret_b (by
            rw [HR.out]
            symm
            refine (partsB_get l 0).2 fun j x hx => ?_
            rw [Int.zero_add]
            exact HP.out j x (by have := (List.getElem?_eq_some_iff.1 hx).1; have := HL.out; omega) hx), hbr⟩
  exact main al rfl
end Go.Proofs.YtiejpenffpjmeaaDoor
