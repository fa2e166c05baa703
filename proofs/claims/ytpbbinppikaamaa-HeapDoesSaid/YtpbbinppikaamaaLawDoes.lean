/- The law HeapDoes's walk. -/
import Derived.Test.YtpbbinppikaamaaDid
import Derived.Test.YtpbbinppikaamaaLawChains
namespace Go.Proofs.Ytpbbinppikaamaa
open Go.RowKit Go.Proofs Go.Maps

theorem obj_form (L : Hp) (p : Int) : ∃ a b c d : Int, objV L p = .agg #[.int .i64 a, .int .i64 b, .int .i64 c, .int .i64 d] := by
  unfold objV
  cases at? L p with
  | none => exact ⟨_, _, _, _, rfl⟩
  | some o => exact ⟨_, _, _, _, rfl⟩
structure B4 (W : World) (n : Nat) (a b c d : Int) : Prop where
  c0 : W.cell? ⟨n, 0, none⟩ = some (.int .i64 a)
  c1 : W.cell? ⟨n, 1, none⟩ = some (.int .i64 b)
  c2 : W.cell? ⟨n, 2, none⟩ = some (.int .i64 c)
  c3 : W.cell? ⟨n, 3, none⟩ = some (.int .i64 d)
  lt : n < W.heap.size
theorem B4.on {W W' : World} {n : Nat} {a b c d : Int} (h : B4 W n a b c d) (hb : Below W.heap.size W W') : B4 W' n a b c d :=
  ⟨(hb.cell (p := ⟨n, 0, none⟩) h.lt).trans h.c0, (hb.cell (p := ⟨n, 1, none⟩) h.lt).trans h.c1, (hb.cell (p := ⟨n, 2, none⟩) h.lt).trans h.c2, (hb.cell (p := ⟨n, 3, none⟩) h.lt).trans h.c3, Nat.lt_of_lt_of_le h.lt hb.size⟩
theorem box4 (w : World) (a b c d : Int) : ∃ W, w.alloc (.cells #[.int .i64 a, .int .i64 b, .int .i64 c, .int .i64 d] 30) = W ∧ Below w.heap.size w W ∧ B4 W w.heap.size a b c d :=
  ⟨_, rfl, (Below.refl _ w).alloc (Nat.le_refl _) _, World.cell?_alloc_new w _ _ 0, World.cell?_alloc_new w _ _ 1, World.cell?_alloc_new w _ _ 2, World.cell?_alloc_new w _ _ 3, by simp⟩
theorem Pr.start {w1 w2 w3 : World} {B1 B2 : Nat} (hI : IsH w2 (From w1.heap.size w2) B1 2 new0) (hB : Below w1.heap.size w1 w2) (hR : IsR w3 (From w2.heap.size w3) B2 2 new0) (hB2 : Below w2.heap.size w2 w3) : Pr w1 w3 (From w1.heap.size w2) (From w2.heap.size w3) B1 B2 2 2 new0 new0 :=
  ⟨hI.below hB2, hR, fun i h1 h2 => by have := h1.2; have := h2.1; omega, fun i h1 => h1.1, fun i h1 => by have := h1.1; have := hB.size; omega, hB.trans (hB2.mono hB.size)⟩
set_option maxRecDepth 100000 in
set_option maxHeartbeats 4000000 in
theorem does_walk (A : Option Addr) (len cap : Nat) (l : List Ac) (w : World) (hl : ActsAt w A len cap l) : Calls Try.prog 3 #[.slice A len cap] w fun e w' => e = .returned (.bool true) ∧ Below w.heap.size w w' := by
  have HS := Lib.hid (shown_any w)
  have HN := Lib.hid (fun w => New_any w)
  have HM := Lib.hid (fun w => RNew_any w)
  have HAc := Lib.hid hl
  have hlc := hl.2.1
  have hcm : cap ≤ 9223372036854775807 := hl.2.2.1
  clear hl
  go_enter Try.func3, Try.ntmps3
  go_wp2_with fail
  go_at_call 11
  refine (HS.out).mono ?_
  rintro e w1 ⟨rfl, hb0⟩
  have HB := Lib.hid hb0
  clear hb0 HS
  go_wp2_with fail
  go_at_call 12
  refine (HN.out _).mono ?_
  rintro e w2 ⟨B1, rfl, hI, hB⟩
  have S := Lib.hid (And.intro hI hB)
  clear hI hB HN
  go_wp2_with fail
  go_at_call 13
  refine (HM.out _).mono ?_
  rintro e w3 ⟨B2, rfl, hI2, hB2⟩
  have S0 := Lib.hid (Pr.start S.out.1 S.out.2 hI2 hB2)
  clear hI2 hB2 HM S
  go_wp2
  go_loopw [6] (fun i wr => ∃ (k : Nat) (F1 F2 : Nat → Prop) (L : Hp), k ≤ len ∧ k ≤ 60 ∧ i = .int .i64 k ∧ Pr w1 wr F1 F2 B1 B2 (2 + k) (2 + k) L L ∧ L.length ≤ 4 + k) (fun i _ => len - (intOf i).toNat)
  case atStart => exact ⟨0, _, _, new0, by omega, by omega, rfl, S0.out, by decide⟩
  case round =>
    obtain ⟨k, F1, F2, L, hk, hk60, rfl, hP, hLk⟩ := hrel
    by_cases hlt : k < len ∧ k < 60
    · obtain ⟨h1, h2⟩ := hlt
      obtain ⟨x, hx⟩ : ∃ x, l[k]? = some x := ⟨_, List.getElem?_eq_getElem (by rw [HAc.out.1]; exact h1)⟩
      obtain ⟨g, off, rfl, -⟩ := HAc.out.2.2.2.1 (by omega)
      have hbw : Below w.heap.size w wr := HB.out.trans (hP.below.mono HB.out.size)
      obtain ⟨⟨a0, a1, a2, a3, a4, a5⟩, ⟨a6, a7, a8, a9⟩, hkey, hdo⟩ := act_cells HAc.out hbw hx
      have hlt1 : (k : Int) < (len : Int) := by omega
      have hlt2 : (k : Int) < 60 := by omega
      obtain ⟨xd, xp, xm, xr, xc, xf, xkey, xv⟩ := x
      obtain ⟨vk, vn, vs⟩ := xv
      simp only at a0 a1 a2 a3 a4 a5 a6 a7 a8 a9 hkey hdo
      have HD := Lib.hid (did_any xd xp xm xr xc xf xkey vk vn vs wr hP (by omega) hkey)
      clear hP hx hbw
      go_wp2_with fail
      go_at_call 14
      refine (HD.out).mono ?_
      rintro e w4 ⟨rfl, F1', F2', L', hP, hL'⟩
      have HLn := Lib.hid (fun (W : World) (hW : Pr w1 W F1' F2' B1 B2 (2 + k + 1) (2 + k + 1) L' L') => len_any W hW.heap)
      have HP := Lib.hid hP
      have hP2 := hP
      obtain ⟨-, ⟨⟨v2, ths, hr, eL⟩, -⟩, -⟩ := hP2
      obtain ⟨A2, c2, rfl, c0, -⟩ := hr.form
      rw [show ths.length = L'.length by rw [eL]; simp] at c0
      clear hP hr eL HD a0 a1 a2 a3 a4 a5 a6 a7 a8 a9
      go_wp2_with fail
      go_quiet ((go_at_call 15; exact Calls.quiet_of_same ((HLn.out _ (HP.out.move (below_drewN (Below.refl _ _) _))).mono (fun e w' h => ⟨h.1, h.2.symm⟩))))
      go_wp2
      go_roundw
      case rel => exact ⟨k + 1, _, _, _, by omega, by omega, by go_num, HP.out.move (below_drewN (Below.refl _ _) _), by omega⟩
      case measure => simp [intOf]; omega
    · have HP := Lib.hid hP
      have hend : (¬ (k : Int) < (len : Int)) ∨ ((k : Int) < (len : Int) ∧ ¬ (k : Int) < 60) := by
        by_cases h1 : k < len
        · exact .inr ⟨by omega, fun h => hlt ⟨h1, by omega⟩⟩
        · exact .inl (by omega)
      have hTL : L.length * (2 + k) ≤ 1000000 := Nat.le_trans (Nat.mul_le_mul (show L.length ≤ 64 by omega) (show 2 + k ≤ 62 by omega)) (by decide)
      have HT := Lib.hid hTL
      clear hP hlt hTL
      rcases hend with hend | ⟨hend, hend2⟩
      all_goals
        go_wp2
        go_loopw [8] (fun i wr => ∃ p : Int, -1 ≤ p ∧ p ≤ (L.length : Int) + 1 ∧ i = .int .i64 p ∧ Pr w1 wr F1 F2 B1 B2 (2 + k) (2 + k) L L) (fun i _ => ((L.length : Int) + 1 - intOf i).toNat)
        case atStart => exact ⟨-1, by omega, by omega, rfl, HP.out⟩
        case round =>
          obtain ⟨p, hp1, hp2, rfl, hP⟩ := hrel
          have hP2 := hP
          obtain ⟨-, ⟨⟨v2, ths, hr, eL⟩, -⟩, -⟩ := hP2
          obtain ⟨A2, c2, rfl, c0, -⟩ := hr.form
          rw [show ths.length = L.length by rw [eL]; simp] at c0
          clear hr eL
          by_cases hpl : p ≤ (L.length : Int)
          · have H1 := Lib.hid (Obj_any p _ hP.heap)
            have H2 := Lib.hid (fun (W : World) (h : Pr w1 W F1 F2 B1 B2 (2 + k) (2 + k) L L) => RObj_any p W h.ref)
            have H3 := Lib.hid (fun (W : World) (h : Pr w1 W F1 F2 B1 B2 (2 + k) (2 + k) L L) => Keys_any p W h.heap (by omega))
            have H4 := Lib.hid (fun (W : World) (h : Pr w1 W F1 F2 B1 B2 (2 + k) (2 + k) L L) => RKeys_any p W h.ref)
            have H5 := Lib.hid (fun (W : World) (h : Pr w1 W F1 F2 B1 B2 (2 + k) (2 + k) L L) => All_any p W h.heap HT.out)
            have H6 := Lib.hid (fun (W : World) (h : Pr w1 W F1 F2 B1 B2 (2 + k) (2 + k) L L) => RAll_any p W h.ref HT.out)
            have hka : (all L p).length ≤ 1000000 := Nat.le_trans (hP.heap.all_len p) HT.out
            have hkk : (keys L p).length ≤ 1000000 := by
              unfold keys
              cases e : at? L p with
              | none => simp
              | some o =>
                obtain ⟨n, rfl, -, hL⟩ := at?_some e
                have := (hP.heap.keyb hL).2
                simp [keysOf]
                omega
            obtain ⟨om, op, oc, of, hobj⟩ := obj_form L p
            rw [hobj] at H1 H2
            generalize objE L p = oe at H1 H2
            generalize all L p = al at H5 H6 hka
            generalize keys L p = ks at H3 H4 hkk
            have HL := Lib.hid (And.intro hka hkk)
            have HP0 := Lib.hid hP
            clear hP hka hkk hobj
            go_wp2_with fail
            go_at_call 16
            refine (H1.out).mono ?_
            rintro e W1 ⟨rfl, hb⟩
            obtain ⟨X1, hX1, hB, b1⟩ := box4 W1 om op oc of
            have hq := hb.trans (hB.mono hb.size)
            have P1 := Lib.hid (And.intro (HP0.out.move hq) b1)
            clear hb hB b1 hq HP0 H1
            go_wp2_with fail
            go_at_call 17
            refine (H2.out _ P1.out.1).mono ?_
            rintro e W2 ⟨rfl, hb⟩
            obtain ⟨X2, hX2, hB, b2⟩ := box4 W2 om op oc of
            have hq := hb.trans (hB.mono hb.size)
            obtain ⟨u0, u1, u2, u3, -⟩ := P1.out.2.on hq
            obtain ⟨y0, y1, y2, y3, -⟩ := b2
            have P2 := Lib.hid (P1.out.1.move hq)
            clear hb hB hq P1 H2
            go_wp2_with fail
            go_at_call 19
            refine (H3.out _ P2.out).mono ?_
            rintro e W3 ⟨v, rfl, hv, hb⟩
            have P3 := Lib.hid (P2.out.move hb)
            have hsr := SRead.strs hv
            obtain ⟨Av, Cv, rfl, -⟩ := hsr.form
            have R3 := Lib.hid hsr
            clear hv hb hsr u0 u1 u2 u3 y0 y1 y2 y3
            go_wp2_with fail
            go_at_call 20
            refine (H4.out _ P3.out).mono ?_
            rintro e W4 ⟨v, rfl, hv, rfl⟩
            obtain ⟨Bv, Dv, rfl, -⟩ := hv.form
            have HC := Lib.hid (same_any _ _ _ _ _ R3.out hv HL.out.2 HL.out.2)
            rw [show decide (ks = ks) = true by simp] at HC
            clear hv
            go_wp2_with fail
            go_at_call 18
            refine (HC.out).mono ?_
            rintro e W5 ⟨rfl, hb⟩
            have P5 := Lib.hid (P3.out.move hb)
            clear hb HC R3 H3 H4
            go_wp2_with fail
            go_at_call 21
            refine (H5.out _ P5.out).mono ?_
            rintro e W6 ⟨v, rfl, hv, hb⟩
            have P6 := Lib.hid (P5.out.move hb)
            have hsr := SRead.strs hv
            obtain ⟨Aw, Cw, rfl, -⟩ := hsr.form
            have R6 := Lib.hid hsr
            clear hv hb hsr
            go_wp2_with fail
            go_at_call 22
            refine (H6.out _ P6.out).mono ?_
            rintro e W7 ⟨v, rfl, hv, hb⟩
            have P7 := Lib.hid (P6.out.move hb)
            obtain ⟨Bw, Dw, rfl, -⟩ := hv.form
            have HC := Lib.hid (same_any _ _ _ _ _ (R6.out.below hb) hv HL.out.1 HL.out.1)
            rw [show decide (al = al) = true by simp] at HC
            clear hv hb
            go_wp2_with fail
            go_at_call 18
            refine (HC.out).mono ?_
            rintro e W8 ⟨rfl, hb⟩
            have P8 := Lib.hid (P7.out.move hb)
            clear hb HC
            go_wp2
            go_roundw
            case rel => exact ⟨p + 1, by omega, by omega, by go_num, P8.out⟩
            case measure => simp [intOf]; omega
          · have HP0 := Lib.hid hP
            clear hP
            go_wp2
            go_ret
            exact ⟨rfl, HB.out.trans (HP0.out.below.mono HB.out.size)⟩
end Go.Proofs.Ytpbbinppikaamaa
