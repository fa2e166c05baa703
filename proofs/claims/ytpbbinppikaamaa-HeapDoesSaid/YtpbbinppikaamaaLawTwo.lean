/- The law HeapTwo's walk. -/
import Derived.Test.YtpbbinppikaamaaTwo
import Derived.Test.YtpbbinppikaamaaActs
import Derived.Test.YtpbbinppikaamaaLawHides
import Derived.StillTailTactics
namespace Go.Proofs.Ytpbbinppikaamaa
open Go.RowKit Go.Proofs Go.Maps

/-- An act's cells where they lie. -/
theorem act_cells {W W' : World} {g off len cap : Nat} {l : List Ac} (h : ActsAt W (some ⟨g, off, none⟩) len cap l) (hb : Below W.heap.size W W') {k : Nat} {x : Ac} (hx : l[k]? = some x) :
    (W'.cell? ⟨g, off + k * 10, none⟩ = some (.int .i64 x.d) ∧ W'.cell? ⟨g, off + k * 10 + 1, none⟩ = some (.int .i64 x.p) ∧ W'.cell? ⟨g, off + k * 10 + 2, none⟩ = some (.int .i64 x.m) ∧ W'.cell? ⟨g, off + k * 10 + 2 + 1, none⟩ = some (.int .i64 x.r) ∧ W'.cell? ⟨g, off + k * 10 + 2 + 2, none⟩ = some (.int .i64 x.c) ∧ W'.cell? ⟨g, off + k * 10 + 2 + 3, none⟩ = some (.int .i64 x.f)) ∧
    (W'.cell? ⟨g, off + k * 10 + 6, none⟩ = some (.string x.key) ∧ W'.cell? ⟨g, off + k * 10 + 7, none⟩ = some (.int .i64 x.v.k) ∧ W'.cell? ⟨g, off + k * 10 + 7 + 1, none⟩ = some (.int .i64 x.v.n) ∧ W'.cell? ⟨g, off + k * 10 + 7 + 2, none⟩ = some (.string x.v.s)) ∧ x.key.size ≤ maxLen ∧ I64 x.d := by
  have hk : k < len := by have := (List.getElem?_eq_some_iff.1 hx).1; have := h.1; omega
  obtain ⟨g', off', e, hg, hc⟩ := h.2.2.2.1 (by omega)
  cases e
  have key : ∀ j, j < 10 → W'.cell? ⟨g, off + k * 10 + j, none⟩ = x.cells[j]? := fun j hj => (hb.cell (p := ⟨g, off + k * 10 + j, none⟩) hg).trans (hc k x hx j hj)
  exact ⟨⟨key 0 (by decide), key 1 (by decide), key 2 (by decide), key 3 (by decide), key 4 (by decide), key 5 (by decide)⟩, ⟨key 6 (by decide), key 7 (by decide), key 8 (by decide), key 9 (by decide)⟩, h.2.2.2.2 x (List.mem_of_getElem? hx)⟩

theorem two_read (W : World) (a b : ByteArray) : SRead (W.alloc (.cells #[.string a, .string b] 9)) (.slice (some ⟨W.heap.size, 0, none⟩) 2 2) [a, b] := by
  refine .inr ⟨W.heap.size, 2, rfl, by simp, Nat.le_refl _, fun j x hj => ?_⟩
  match j, hj with
  | 0, hj =>
    simp at hj
    subst hj
    exact World.cell?_alloc_new W _ _ 0
  | 1, hj =>
    simp at hj
    subst hj
    exact World.cell?_alloc_new W _ _ 1
  | n + 2, hj => simp at hj

set_option maxRecDepth 100000 in
set_option maxHeartbeats 4000000 in
theorem two_walk (A : Option Addr) (len cap : Nat) (l : List Ac) (w : World) (hl : ActsAt w A len cap l) : Calls Try.prog 10 #[.slice A len cap] w fun e w' => e = .returned (.bool true) ∧ Below w.heap.size w w' := by
  have HS := Lib.hid (shown_any w)
  have HN := Lib.hid (fun w => New_any w)
  have HAc := Lib.hid hl
  have hlc := hl.2.1
  have hcm : cap ≤ 9223372036854775807 := hl.2.2.1
  clear hl
  go_enter Try.func10, Try.ntmps10
  go_wp2_with fail
  go_at_call 11
  refine (HS.out).mono ?_
  rintro e w1 ⟨rfl, hb0⟩
  have HB := Lib.hid hb0
  clear hb0 HS
  go_wp2_with fail
  go_at_call 12
  refine (HN.out _).mono ?_
  rintro e w2 ⟨B, rfl, hI, hB⟩
  have S := Lib.hid (St.start hI hB)
  have HW12 := Lib.hid hB.size
  clear hI hB
  go_wp2_with fail
  go_at_call 12
  refine (HN.out _).mono ?_
  rintro e w3 ⟨B2, rfl, hI2, hB2⟩
  have S0 := Lib.hid (And.intro (S.out.move hB2) (And.intro hI2 (show ∀ i, From w2.heap.size w3 i → ¬ From w1.heap.size w2 i from fun i h1 h2 => by have := h1.1; have := h2.2; omega)))
  clear hI2 hB2 HN S
  go_wp2
  go_loopw [6] (fun i wr => ∃ (k : Nat) (F : Nat → Prop) (T : Nat) (L : Hp), k ≤ len ∧ k ≤ 60 ∧ i = .int .i64 k ∧ St w1 wr F B T L [] ∧ IsH wr (From w2.heap.size w3) B2 2 new0 ∧ (∀ i, From w2.heap.size w3 i → ¬ F i) ∧ T ≤ 2 + k) (fun i _ => len - (intOf i).toNat)
  case atStart => exact ⟨0, _, 2, new0, by omega, by omega, rfl, S0.out.1, S0.out.2.1, S0.out.2.2, by omega⟩
  case round =>
    obtain ⟨k, F, T, L, hk, hk60, rfl, hS, hK, hd, hT⟩ := hrel
    by_cases hlt : k < len ∧ k < 60
    · obtain ⟨h1, h2⟩ := hlt
      obtain ⟨x, hx⟩ : ∃ x, l[k]? = some x := ⟨_, List.getElem?_eq_getElem (by rw [HAc.out.1]; exact h1)⟩
      obtain ⟨g, off, rfl, -⟩ := HAc.out.2.2.2.1 (by omega)
      have hbw : Below w.heap.size w wr := HB.out.trans (hS.below.mono HB.out.size)
      obtain ⟨⟨a0, a1, a2, a3, a4, a5⟩, ⟨a6, a7, a8, a9⟩, hkey, hdo⟩ := act_cells HAc.out hbw hx
      have hlt1 : (k : Int) < (len : Int) := by omega
      have hlt2 : (k : Int) < 60 := by omega
      have S := Lib.hid hS
      have HK := Lib.hid (And.intro hK (And.intro hd hT))
      clear hS hK hd hT hx hbw
      obtain ⟨xd, xp, xm, xr, xc, xf, xkey, xv⟩ := x
      obtain ⟨vk, vn, vs⟩ := xv
      simp only at a0 a1 a2 a3 a4 a5 a6 a7 a8 a9 hkey hdo
      cases hkd : ((IntKind.u64.wrap xd).tmod 3 == 0) with
      | true =>
        have HC := Lib.hid (Alloc_any xm xr xc xf wr S.out.heap)
        go_wp2_with fail
        go_at_call 23
        refine (HC.out).mono ?_
        rintro e w4 ⟨rfl, hI, ho⟩
        go_wp2
        go_roundw
        case rel => exact ⟨k + 1, _, T, _, by omega, by omega, by go_num, S.out.turn hI ho, HK.out.1.only ho HK.out.2.1, fun i h1 h2 => by
          rcases h2 with h2 | h2
          · exact HK.out.2.1 i h1 h2
          · have := HK.out.1.lt i h1
            omega, by have := HK.out.2.2; omega⟩
        case measure => simp [intOf]; omega
      | false =>
        have HC := Lib.hid (Put_any xp xkey ⟨vk, vn, vs⟩ wr.drew (T := T) (S.out.heap.keep (w' := wr.drew) (fun _ _ => rfl) (Nat.le_refl _)) hkey (by have := HK.out.2.2; omega))
        simp only [V.v] at HC
        go_wp2_with fail
        go_still_tail 16, (by kernel_rfl)
        change wpList _ _ _ _ _ wr.drew
        go_wp2_with fail
        go_at_call 26
        refine (HC.out).mono ?_
        rintro e w4 ⟨rfl, hI, ho⟩
        go_wp2
        go_roundw
        case rel => exact ⟨k + 1, _, T + 1, _, by omega, by omega, by go_num, S.out.turn (W' := w4) hI ⟨ho.os, ho.tape, ho.output, ho.size, ho.block⟩, HK.out.1.only (w' := w4) ⟨ho.os, ho.tape, ho.output, ho.size, ho.block⟩ HK.out.2.1, fun i h1 h2 => by
          rcases h2 with h2 | h2
          · exact HK.out.2.1 i h1 h2
          · have := HK.out.1.lt i h1
            have h3 := h2.1
            have h4 : wr.drew.heap.size = wr.heap.size := rfl
            omega, by have := HK.out.2.2; omega⟩
        case measure => simp [intOf]; omega
    · have SK := Lib.hid (⟨hS.below, hK, fun i hi => by have := hi.1; have := S0.out.1.below.size; have := HW12.out; omega, fun p hp => by simp at hp⟩ : St w1 wr (From w2.heap.size w3) B2 2 new0 [])
      have hend : (¬ (k : Int) < (len : Int)) ∨ ((k : Int) < (len : Int) ∧ ¬ (k : Int) < 60) := by
        by_cases h1 : k < len
        · exact .inr ⟨by omega, fun h => hlt ⟨h1, by omega⟩⟩
        · exact .inl (by omega)
      have H4 := Lib.hid (len_any _ hK)
      have K1 := Lib.hid (fun (W : World) (h : St w1 W (From w2.heap.size w3) B2 2 new0 []) => Keys_any 1 W h.heap (by omega))
      have K0 := Lib.hid (fun (W : World) (h : St w1 W (From w2.heap.size w3) B2 2 new0 []) => Keys_any 0 W h.heap (by omega))
      have K2 := Lib.hid (fun (W : World) (h : St w1 W (From w2.heap.size w3) B2 2 new0 []) => Keys_any 2 W h.heap (by omega))
      have K3 := Lib.hid (fun (W : World) (h : St w1 W (From w2.heap.size w3) B2 2 new0 []) => Keys_any 3 W h.heap (by omega))
      have KO := Lib.hid (fun (W : World) (h : St w1 W (From w2.heap.size w3) B2 2 new0 []) => Obj_any 2 W h.heap)
      rw [show keys new0 1 = [callB, applyB] from rfl] at K1
      rw [show keys new0 0 = [] from rfl] at K0
      rw [show keys new0 2 = [] from rfl] at K2
      rw [show keys new0 3 = [] from rfl] at K3
      rw [show objV new0 2 = .agg #[.int .i64 2, .int .i64 1, .int .i64 (-1), .int .i64 0] from rfl, show objE new0 2 = 0 from rfl] at KO
      rw [show new0.length = 4 from rfl] at H4
      clear hS hK hd hT hlt
      rcases hend with hend | ⟨hend, hend2⟩
      all_goals
        go_wp2_with fail
        go_at_call 15
        refine (H4.out).mono ?_
        rintro e w' ⟨rfl, rfl⟩
        go_wp2_with fail
        go_at_call 19
        refine (K1.out _ SK.out).mono ?_
        rintro e w4 ⟨v, rfl, hv, hb⟩
        have S4 := Lib.hid ((SK.out.move hb).move (below_box w4 (.cells #[.string callB, .string applyB] 9)))
        have hsr := (SRead.strs hv).below (below_box w4 (.cells #[.string callB, .string applyB] 9))
        have HC := Lib.hid (same_any _ _ _ _ _ hsr (two_read w4 callB applyB) (by simp) (by simp))
        obtain ⟨Av, Cv, rfl, -⟩ := (SRead.strs hv).form
        have ed : decide (([callB, applyB] : List ByteArray) = [callB, applyB]) = true := by simp
        rw [ed] at HC
        simp only [callB, applyB] at HC S4
        clear hb hv hsr ed
        go_wp2_with fail
        go_at_call 18
        refine (HC.out).mono ?_
        rintro e w5 ⟨rfl, hb⟩
        have S5 := Lib.hid (S4.out.move hb)
        clear hb HC
        go_wp2_with fail
        go_at_call 19
        refine (K0.out _ S5.out).mono ?_
        rintro e w6 ⟨v, rfl, hv, hb⟩
        have S6 := Lib.hid (S5.out.move hb)
        obtain ⟨A6, C6, rfl⟩ := strs_len0 hv
        clear hb hv
        go_wp2_with fail
        go_at_call 19
        refine (K2.out _ S6.out).mono ?_
        rintro e w7 ⟨v, rfl, hv, hb⟩
        have S7 := Lib.hid (S6.out.move hb)
        obtain ⟨A7, C7, rfl⟩ := strs_len0 hv
        clear hb hv
        go_wp2_with fail
        go_at_call 19
        refine (K3.out _ S7.out).mono ?_
        rintro e w8 ⟨v, rfl, hv, hb⟩
        have S8 := Lib.hid (S7.out.move hb)
        obtain ⟨A8, C8, rfl⟩ := strs_len0 hv
        clear hb hv
        go_wp2_with fail
        go_at_call 16
        refine (KO.out _ S8.out).mono ?_
        rintro e w9 ⟨rfl, hb⟩
        have S9 := Lib.hid (S8.out.move hb)
        clear hb
        go_wp2
        go_ret
        exact ⟨rfl, HB.out.trans ((S9.out.below.trans ((below_box w9 _).mono S9.out.below.size)).mono HB.out.size)⟩

end Go.Proofs.Ytpbbinppikaamaa
