/- The document's reader: signs, num, closed. The document's reader: within. -/
import Derived.Deep.LoopGhost
import Derived.Deep.RegionHeldLaw
import Derived.Test.YtejbdoiamhfbjaaPm12
set_option linter.unusedSimpArgs false
set_option linter.unusedVariables false
set_option maxRecDepth 100000
set_option maxHeartbeats 4000000
namespace Go.Proofs.Ytejbdoiamhfbjaa
section
open Go.RowKit Go.Proofs
section
variable {R cp : Nat} {A : Option Addr} {L : List Tok} {st : St} {F : Nat}
theorem signs_any (k : Nat) (hk : k ≤ 5) (w : World) : Calls Try.prog 109 #[.int .i64 k] w fun e w' => ∃ g, e = .returned (.slice (some ⟨g, 0, none⟩) (signsR k).length (signsR k).length) ∧ (∀ i s, (signsR k)[i]? = some s → w'.cell? ⟨g, i, none⟩ = some (.string (bs s))) ∧ w.heap.size ≤ g ∧ g < w'.heap.size ∧ Below w.heap.size w w' := by
  have one_ : ∀ s : ByteArray, w.heap.size < (w.alloc (.cells #[.string s] 9)).heap.size := fun s => by simp
  have fin1 : ∀ (s : Bs), (∀ (i : Nat) (t : Bs), [s][i]? = some t → (w.alloc (.cells #[.string (bs s)] 9)).cell? ⟨w.heap.size, i, none⟩ = some (.string (bs t))) := fun s i t h => by
    match i, h with
    | 0, h => obtain rfl : s = t := by simpa using h
              exact wcell_alloc _ _ _ _ _ rfl
    | i + 1, h => simp at h
  have fin2 : ∀ (s u : Bs), (∀ (i : Nat) (t : Bs), [s, u][i]? = some t → (w.alloc (.cells #[.string (bs s), .string (bs u)] 9)).cell? ⟨w.heap.size, i, none⟩ = some (.string (bs t))) := fun s u i t h => by
    match i, h with
    | 0, h => obtain rfl : s = t := by simpa using h
              exact wcell_alloc _ _ _ _ _ rfl
    | 1, h => obtain rfl : u = t := by simpa using h
              exact wcell_alloc _ _ _ _ _ rfl
    | i + 2, h => simp at h
  have hb : ∀ o, Below w.heap.size w (w.alloc o) := fun o => (Below.refl _ w).alloc (Nat.le_refl _) _
  have F1 := Lib.hid fin1
  have F2 := Lib.hid fin2
  have HB := Lib.hid (And.intro hb one_)
  clear fin1 fin2 hb one_
  match k, hk with
  | 0, _ =>
    go_enter Try.func109, Try.ntmps109
    go_wp2
    go_ret
    exact ⟨_, rfl, F1.out [124, 124], Nat.le_refl _, by simp, HB.out.1 _⟩
  | 1, _ =>
    go_enter Try.func109, Try.ntmps109
    go_wp2
    go_ret
    exact ⟨_, rfl, F1.out [38, 38], Nat.le_refl _, by simp, HB.out.1 _⟩
  | 2, _ =>
    go_enter Try.func109, Try.ntmps109
    go_wp2
    go_ret
    exact ⟨_, rfl, F2.out [61, 61, 61] [33, 61, 61], Nat.le_refl _, by simp, HB.out.1 _⟩
  | 3, _ =>
    go_enter Try.func109, Try.ntmps109
    go_wp2
    go_ret
    exact ⟨_, rfl, F2.out [60] [60, 61], Nat.le_refl _, by simp, HB.out.1 _⟩
  | 4, _ =>
    go_enter Try.func109, Try.ntmps109
    go_wp2
    go_ret
    exact ⟨_, rfl, F2.out [43] [45], Nat.le_refl _, by simp, HB.out.1 _⟩
  | 5, _ =>
    go_enter Try.func109, Try.ntmps109
    go_wp2
    go_ret
    exact ⟨_, rfl, F1.out [42], Nat.le_refl _, by simp, HB.out.1 _⟩
  | n + 6, h => omega
theorem closed_any (frm : Nat) (w : World) (h : RdAt w R A cp L st) (hf : frm ≤ st.pos) : Calls Try.prog 96 #[ptr R, .int .i64 frm] w fun e w' => e = .returned (.bool (closedL ((L.take st.pos).drop frm) 0)) ∧ Below w.heap.size w w' := by
 have hlen := h.len
 have hpos := h.pos
 have hcap := h.cap
 obtain ⟨P, hP⟩ : ∃ x, st.pos = x := ⟨_, rfl⟩
 have HL := Lib.hid (show (L.take P).length = P by rw [List.length_take]; omega)
 have H := Lib.hid h
 rw [hP] at hf hpos ⊢
 have HPo := Lib.hid hP
 clear h hP
 go_enter Try.func96, Try.ntmps96
 go_wp2
 go_loopw [5, 6] (fun d i wr => ∃ (q : Nat) (dd : Int), q ≤ P ∧ i = .int .i64 q ∧ d = .int .i64 dd ∧ RowKit.Hid (closedL ((L.take P).drop frm) 0 = closedL ((L.take P).drop q) dd ∧ Below w.heap.size w wr) ∧ -(q : Int) ≤ dd ∧ dd ≤ q) (fun _ i _ => P - (intOf i).toNat)
 case atStart => exact ⟨frm, 0, hf, rfl, rfl, Lib.hid ⟨rfl, Below.refl _ _⟩, by omega, by omega⟩
 case round =>
  obtain ⟨q, dd, hq, rfl, rfl, HR, hd1, hd2⟩ := hrel
  have hrd := H.out.below HR.out.2 H.out.lt
  obtain ⟨c0, c1, c2, c3⟩ := hrd.cells
  rw [HPo.out] at c1
  by_cases hlt : q < P
  ·have hlt' : (q : Int) < (P : Int) := by omega
   have hltL : (q : Int) < (L.length : Int) := by omega
   obtain ⟨t, ht⟩ : ∃ t, L[q]? = some t := ⟨_, List.getElem?_eq_getElem (by omega)⟩
   obtain ⟨g, rfl, hg, t0, t1, t2, t3, t4⟩ := hrd.row _ t ht
   have hdrop : (L.take P).drop q = t :: (L.take P).drop (q + 1) := by
    rw [List.drop_eq_getElem_cons (by rw [HL.out]; exact hlt)]
    congr 1
    rw [List.getElem_take]
    have := (List.getElem?_eq_some_iff.1 ht).2
    exact this
   have hemp : ((L.take P).drop (q + 1)).isEmpty = decide (q + 1 = P) := by
    rw [Bool.eq_iff_iff, List.isEmpty_iff, List.drop_eq_nil_iff, HL.out]
    simp
    omega
   have hw0 : IntKind.i64.wrap ((P : Int) - 1) = (P : Int) - 1 := IntWalk.i64_in _ (by omega)
   have hw1 : IntKind.i64.wrap (dd + 1) = dd + 1 := IntWalk.i64_in _ (by omega)
   have hw2 : IntKind.i64.wrap (dd - 1) = dd - 1 := IntWalk.i64_in _ (by omega)
   have hwq : IntKind.i64.wrap ((q : Int) + 1) = (q : Int) + 1 := IntWalk.i64_in _ (by omega)
   have hlast : ((q : Int) == (P : Int) - 1) = decide (q + 1 = P) := by
    rw [Bool.eq_iff_iff]
    simp
    omega
   obtain ⟨kd, ts, tn, ln, nl⟩ := t
   dsimp only at t0 t1 t2 t3 t4
   have HD := Lib.hid (And.intro hdrop hemp)
   clear hdrop hemp ht hrd
   by_cases hk : kd = 5
   ·subst hk
    have hcl : ∀ d : Int, closedL ((L.take P).drop q) dd = (if d = 0 then decide (q + 1 = P) else closedL ((L.take P).drop (q + 1)) d) ∨ (if ts = [40] ∨ ts = [91] ∨ ts = [123] then dd + 1 else if ts = [41] ∨ ts = [93] ∨ ts = [125] then dd - 1 else dd) ≠ d := fun d => by
     by_cases h : (if ts = [40] ∨ ts = [91] ∨ ts = [123] then dd + 1 else if ts = [41] ∨ ts = [93] ∨ ts = [125] then dd - 1 else dd) = d
     ·left
      rw [HD.out.1, closedL, if_pos rfl]
      dsimp only
      rw [h, HD.out.2]
     ·exact .inr h
    have HC := Lib.hid hcl
    clear hcl
    by_cases s0 : ts = [40]
    ·subst s0
     have HX := Lib.hid ((HC.out (dd + 1)).resolve_right (fun h => h (by simp)))
     have q0 : ((bs [40]).toList == [40]) = true := by rw [bs_eq]; decide
     clear HC
     by_cases hz : dd + 1 = 0
     ·have dz : (dd + 1 == 0) = true := by simpa using hz
      have HY := Lib.hid (show closedL ((L.take P).drop frm) 0 = decide (q + 1 = P) by rw [HR.out.1, HX.out, if_pos hz])
      clear hz
      go_wp2
      go_ret
      exact ⟨ret_b HY.out.symm, HR.out.2⟩
     ·have dz : (dd + 1 == 0) = false := by simpa using hz
      have HY := Lib.hid (show closedL ((L.take P).drop frm) 0 = closedL ((L.take P).drop (q + 1)) (dd + 1) by rw [HR.out.1, HX.out, if_neg hz])
      clear hz
      go_wp2
      go_roundw
      case rel => exact ⟨q + 1, dd + 1, by omega, by go_num, rfl, Lib.hid ⟨HY.out, HR.out.2⟩, by omega, by omega⟩
      case measure => simp [intOf]; omega
    ·by_cases s1 : ts = [91]
     ·subst s1
      clear s0
      have HX := Lib.hid ((HC.out (dd + 1)).resolve_right (fun h => h (by simp)))
      have q0 : ((bs [91]).toList == [40]) = false := by rw [bs_eq]; decide
      have q1 : ((bs [91]).toList == [91]) = true := by rw [bs_eq]; decide
      clear HC
      by_cases hz : dd + 1 = 0
      ·have dz : (dd + 1 == 0) = true := by simpa using hz
       have HY := Lib.hid (show closedL ((L.take P).drop frm) 0 = decide (q + 1 = P) by rw [HR.out.1, HX.out, if_pos hz])
       clear hz
       go_wp2
       go_ret
       exact ⟨ret_b HY.out.symm, HR.out.2⟩
      ·have dz : (dd + 1 == 0) = false := by simpa using hz
       have HY := Lib.hid (show closedL ((L.take P).drop frm) 0 = closedL ((L.take P).drop (q + 1)) (dd + 1) by rw [HR.out.1, HX.out, if_neg hz])
       clear hz
       go_wp2
       go_roundw
       case rel => exact ⟨q + 1, dd + 1, by omega, by go_num, rfl, Lib.hid ⟨HY.out, HR.out.2⟩, by omega, by omega⟩
       case measure => simp [intOf]; omega
     ·by_cases s2 : ts = [123]
      ·subst s2
       clear s0 s1
       have HX := Lib.hid ((HC.out (dd + 1)).resolve_right (fun h => h (by simp)))
       have q0 : ((bs [123]).toList == [40]) = false := by rw [bs_eq]; decide
       have q1 : ((bs [123]).toList == [91]) = false := by rw [bs_eq]; decide
       have q2 : ((bs [123]).toList == [123]) = true := by rw [bs_eq]; decide
       clear HC
       by_cases hz : dd + 1 = 0
       ·have dz : (dd + 1 == 0) = true := by simpa using hz
        have HY := Lib.hid (show closedL ((L.take P).drop frm) 0 = decide (q + 1 = P) by rw [HR.out.1, HX.out, if_pos hz])
        clear hz
        go_wp2
        go_ret
        exact ⟨ret_b HY.out.symm, HR.out.2⟩
       ·have dz : (dd + 1 == 0) = false := by simpa using hz
        have HY := Lib.hid (show closedL ((L.take P).drop frm) 0 = closedL ((L.take P).drop (q + 1)) (dd + 1) by rw [HR.out.1, HX.out, if_neg hz])
        clear hz
        go_wp2
        go_roundw
        case rel => exact ⟨q + 1, dd + 1, by omega, by go_num, rfl, Lib.hid ⟨HY.out, HR.out.2⟩, by omega, by omega⟩
        case measure => simp [intOf]; omega
      ·by_cases s3 : ts = [41]
       ·subst s3
        clear s0 s1 s2
        have HX := Lib.hid ((HC.out (dd - 1)).resolve_right (fun h => h (by simp)))
        have q0 : ((bs [41]).toList == [40]) = false := by rw [bs_eq]; decide
        have q1 : ((bs [41]).toList == [91]) = false := by rw [bs_eq]; decide
        have q2 : ((bs [41]).toList == [123]) = false := by rw [bs_eq]; decide
        have q3 : ((bs [41]).toList == [41]) = true := by rw [bs_eq]; decide
        clear HC
        by_cases hz : dd - 1 = 0
        ·have dz : (dd - 1 == 0) = true := by simpa using hz
         have HY := Lib.hid (show closedL ((L.take P).drop frm) 0 = decide (q + 1 = P) by rw [HR.out.1, HX.out, if_pos hz])
         clear hz
         go_wp2
         go_ret
         exact ⟨ret_b HY.out.symm, HR.out.2⟩
        ·have dz : (dd - 1 == 0) = false := by simpa using hz
         have HY := Lib.hid (show closedL ((L.take P).drop frm) 0 = closedL ((L.take P).drop (q + 1)) (dd - 1) by rw [HR.out.1, HX.out, if_neg hz])
         clear hz
         go_wp2
         go_roundw
         case rel => exact ⟨q + 1, dd - 1, by omega, by go_num, rfl, Lib.hid ⟨HY.out, HR.out.2⟩, by omega, by omega⟩
         case measure => simp [intOf]; omega
       ·by_cases s4 : ts = [93]
        ·subst s4
         clear s0 s1 s2 s3
         have HX := Lib.hid ((HC.out (dd - 1)).resolve_right (fun h => h (by simp)))
         have q0 : ((bs [93]).toList == [40]) = false := by rw [bs_eq]; decide
         have q1 : ((bs [93]).toList == [91]) = false := by rw [bs_eq]; decide
         have q2 : ((bs [93]).toList == [123]) = false := by rw [bs_eq]; decide
         have q3 : ((bs [93]).toList == [41]) = false := by rw [bs_eq]; decide
         have q4 : ((bs [93]).toList == [93]) = true := by rw [bs_eq]; decide
         clear HC
         by_cases hz : dd - 1 = 0
         ·have dz : (dd - 1 == 0) = true := by simpa using hz
          have HY := Lib.hid (show closedL ((L.take P).drop frm) 0 = decide (q + 1 = P) by rw [HR.out.1, HX.out, if_pos hz])
          clear hz
          go_wp2
          go_ret
          exact ⟨ret_b HY.out.symm, HR.out.2⟩
         ·have dz : (dd - 1 == 0) = false := by simpa using hz
          have HY := Lib.hid (show closedL ((L.take P).drop frm) 0 = closedL ((L.take P).drop (q + 1)) (dd - 1) by rw [HR.out.1, HX.out, if_neg hz])
          clear hz
          go_wp2
          go_roundw
          case rel => exact ⟨q + 1, dd - 1, by omega, by go_num, rfl, Lib.hid ⟨HY.out, HR.out.2⟩, by omega, by omega⟩
          case measure => simp [intOf]; omega
        ·by_cases s5 : ts = [125]
         ·subst s5
          clear s0 s1 s2 s3 s4
          have HX := Lib.hid ((HC.out (dd - 1)).resolve_right (fun h => h (by simp)))
          have q0 : ((bs [125]).toList == [40]) = false := by rw [bs_eq]; decide
          have q1 : ((bs [125]).toList == [91]) = false := by rw [bs_eq]; decide
          have q2 : ((bs [125]).toList == [123]) = false := by rw [bs_eq]; decide
          have q3 : ((bs [125]).toList == [41]) = false := by rw [bs_eq]; decide
          have q4 : ((bs [125]).toList == [93]) = false := by rw [bs_eq]; decide
          have q5 : ((bs [125]).toList == [125]) = true := by rw [bs_eq]; decide
          clear HC
          by_cases hz : dd - 1 = 0
          ·have dz : (dd - 1 == 0) = true := by simpa using hz
           have HY := Lib.hid (show closedL ((L.take P).drop frm) 0 = decide (q + 1 = P) by rw [HR.out.1, HX.out, if_pos hz])
           clear hz
           go_wp2
           go_ret
           exact ⟨ret_b HY.out.symm, HR.out.2⟩
          ·have dz : (dd - 1 == 0) = false := by simpa using hz
           have HY := Lib.hid (show closedL ((L.take P).drop frm) 0 = closedL ((L.take P).drop (q + 1)) (dd - 1) by rw [HR.out.1, HX.out, if_neg hz])
           clear hz
           go_wp2
           go_roundw
           case rel => exact ⟨q + 1, dd - 1, by omega, by go_num, rfl, Lib.hid ⟨HY.out, HR.out.2⟩, by omega, by omega⟩
           case measure => simp [intOf]; omega
         ·have HX := Lib.hid ((HC.out (dd)).resolve_right (fun h => h (by simp [s0, s1, s2, s3, s4, s5])))
          have q0 : ((bs ts).toList == [40]) = false := by rw [bs_eq]; simpa using s0
          have q1 : ((bs ts).toList == [91]) = false := by rw [bs_eq]; simpa using s1
          have q2 : ((bs ts).toList == [123]) = false := by rw [bs_eq]; simpa using s2
          have q3 : ((bs ts).toList == [41]) = false := by rw [bs_eq]; simpa using s3
          have q4 : ((bs ts).toList == [93]) = false := by rw [bs_eq]; simpa using s4
          have q5 : ((bs ts).toList == [125]) = false := by rw [bs_eq]; simpa using s5
          clear HC
          by_cases hz : dd = 0
          ·have dz : (dd == 0) = true := by simpa using hz
           have HY := Lib.hid (show closedL ((L.take P).drop frm) 0 = decide (q + 1 = P) by rw [HR.out.1, HX.out, if_pos hz])
           clear hz
           go_wp2
           go_ret
           exact ⟨ret_b HY.out.symm, HR.out.2⟩
          ·have dz : (dd == 0) = false := by simpa using hz
           have HY := Lib.hid (show closedL ((L.take P).drop frm) 0 = closedL ((L.take P).drop (q + 1)) (dd) by rw [HR.out.1, HX.out, if_neg hz])
           clear hz
           go_wp2
           go_roundw
           case rel => exact ⟨q + 1, dd, by omega, by go_num, rfl, Lib.hid ⟨HY.out, HR.out.2⟩, by omega, by omega⟩
           case measure => simp [intOf]; omega
   ·have HX := Lib.hid (show closedL ((L.take P).drop frm) 0 = closedL ((L.take P).drop (q + 1)) dd by rw [HR.out.1, HD.out.1, closedL, if_neg hk])
    have dk : (kd != 5) = true := by simpa using hk
    clear hk
    go_wp2
    go_roundw
    case rel => exact ⟨q + 1, dd, by omega, by go_num, rfl, Lib.hid ⟨HX.out, HR.out.2⟩, by omega, by omega⟩
    case measure => simp [intOf]; omega
  ·obtain rfl : q = P := by omega
   have HE := Lib.hid (show closedL ((L.take q).drop frm) 0 = false by rw [HR.out.1, List.drop_eq_nil_of_le (by rw [HL.out]; exact Nat.le_refl _)]; rfl)
   go_wp2
   go_ret
   exact ⟨ret_b HE.out.symm, HR.out.2⟩
theorem closed_gt (frm : Nat) (w : World) (h : RdAt w R A cp L st) (hf : st.pos < frm) (h2 : frm ≤ 65536) : Calls Try.prog 96 #[ptr R, .int .i64 frm] w fun e w' => e = .returned (.bool (closedL ((L.take st.pos).drop frm) 0)) ∧ Below w.heap.size w w' := by
 have HE := Lib.hid (show closedL ((L.take st.pos).drop frm) 0 = false by
  rw [List.drop_eq_nil_of_le (by rw [List.length_take]; omega)]; rfl)
 obtain ⟨c0, c1, c2, c3⟩ := h.cells
 have hpos := h.pos
 have hlen := h.len
 have hn : ¬ (frm : Int) < (st.pos : Int) := by omega
 clear h
 go_enter Try.func96, Try.ntmps96
 go_wp2
 go_loopw [5, 6] (fun d i wr => d = .int .i64 0 ∧ i = .int .i64 frm ∧ wr = w) (fun _ _ _ => 0)
 case atStart => exact ⟨rfl, rfl, rfl⟩
 case round =>
  obtain ⟨rfl, rfl, rfl⟩ := hrel
  go_wp2
  go_ret
  exact ⟨ret_b HE.out.symm, Below.refl _ _⟩
theorem closed_all (frm : Nat) (w : World) (h : RdAt w R A cp L st) (h2 : frm ≤ 65536) : Calls Try.prog 96 #[ptr R, .int .i64 frm] w fun e w' => e = .returned (.bool (closedL ((L.take st.pos).drop frm) 0)) ∧ Below w.heap.size w w' := by
 by_cases hf : frm ≤ st.pos
 ·exact closed_any frm w h hf
 ·exact closed_gt frm w h (by omega) h2
end
end
section
open Go.RowKit Go.Proofs
section
variable {R cp : Nat} {A : Option Addr} {L : List Tok} {st : St} {F : Nat}
theorem within_ok (ih : All R A cp L F) (l : List Tr) (st1 : St) (hr : run L (F + 1) .within st = some (l, st1)) : Spec R A cp L .within st l st1 := by
 intro w h
 rw [run] at hr
 dsimp only at hr
 have m0 := Mid.start h
 obtain ⟨W1, eW1⟩ : ∃ W, w.alloc (.cells #[.int .i64 0, .string ⟨#[]⟩, .int .i64 0, .slice none 0 0, .int .i64 0] 24) = W := ⟨_, rfl⟩
 rw [eW1] at m0
 have hz0 := m0.gt
 have M0 := Lib.hid m0
 have hR := h.lt
 clear h m0
 cases ht : tokR L st 0 with | mk kd ts tn ln nl =>
 cases hi : isR L st [123] with
 | true =>
  have e1 : run L F .block st = some (l, st1) := by simpa [hi] using hr
  have H1 := Lib.hid (ih .block _ _ _ e1)
  clear hr e1
  go_enter Try.func92, Try.ntmps92
  have HQ0 := tok_any 0 W1 M0.out.rd (by omega)
  rw [ht] at HQ0
  unfold tokV at HQ0
  have HQ := Lib.hid HQ0
  clear HQ0
  go_wp2_with fail
  go_at_call 55
  refine (HQ.out).mono ?_
  rintro e w2 ⟨rfl, hb⟩
  have f2 := Fr.of_below (R := R) hb (Nat.le_refl _)
  have h2 := M0.out.rd.below hb M0.out.rd.lt
  have z2 := f2.size
  clear hb
  have M2 := Lib.hid ((M0.out.call h2 f2))
  clear h2 f2
  clear HQ
  have fl := tok_line kd ts tn ln nl w2
  obtain ⟨w3, e3, m3, f3, b3, zq3⟩ := M2.out.box_ (.int .i64 32) (.string ⟨#[]⟩) (.int .i64 0) (.slice none 0 0) (.int .i64 ln)
  have z3 : w2.heap.size < w3.heap.size := by omega
  clear zq3
  have M3 := Lib.hid (And.intro m3 (b3))
  clear m3 f3 b3
  have HQ0 := is_any [123] ⟨#[123]⟩ rfl w3 M3.out.1.rd
  rw [hi] at HQ0
  have HQ := Lib.hid HQ0
  clear HQ0
  go_wp2_with fail
  go_at_call 56
  refine (HQ.out).mono ?_
  rintro e w4 ⟨rfl, hb⟩
  have f4 := Fr.of_below (R := R) hb (Nat.le_refl _)
  have h4 := M3.out.1.rd.below hb M3.out.1.rd.lt
  have z4 := f4.size
  clear hb
  have M4 := Lib.hid (And.intro (M3.out.1.call h4 f4) (M3.out.2.fr f4 (by omega)))
  clear h4 f4
  clear HQ
  skip
  go_wp2_with fail
  go_at_call 72
  refine (H1.out w4 M4.out.1.rd).mono ?_
  rintro e w5 ⟨v5, rfl, h5, f5, t5⟩
  obtain ⟨A5, c5, rfl, -, -⟩ := t5.form
  have M5 := Lib.hid (And.intro (M4.out.1.call h5 f5) (t5.af (B := w.heap.size) (by omega)))
  clear h5 f5 t5
  obtain ⟨⟨y0, y1, y2, y3, y4⟩, g0, g1, g2, g3, g4⟩ := M5.out.1.facts
  go_wp2
  exact M5.out.1.gives' 2 M5.out.2 rfl rfl rfl
 | false =>
  cases hj : isR L st [59] with
  | true =>
   obtain ⟨rfl, rfl⟩ : [Tr.mk 32 [] 0 ln []] = l ∧ st.next = st1 := by simpa [hi, hj, one, ht] using hr
   clear hr
   go_enter Try.func92, Try.ntmps92
   have HQ0 := tok_any 0 W1 M0.out.rd (by omega)
   rw [ht] at HQ0
   unfold tokV at HQ0
   have HQ := Lib.hid HQ0
   clear HQ0
   go_wp2_with fail
   go_at_call 55
   refine (HQ.out).mono ?_
   rintro e w2 ⟨rfl, hb⟩
   have f2 := Fr.of_below (R := R) hb (Nat.le_refl _)
   have h2 := M0.out.rd.below hb M0.out.rd.lt
   have z2 := f2.size
   clear hb
   have M2 := Lib.hid ((M0.out.call h2 f2))
   clear h2 f2
   clear HQ
   have fl := tok_line kd ts tn ln nl w2
   obtain ⟨w3, e3, m3, f3, b3, zq3⟩ := M2.out.box_ (.int .i64 32) (.string ⟨#[]⟩) (.int .i64 0) (.slice none 0 0) (.int .i64 ln)
   have z3 : w2.heap.size < w3.heap.size := by omega
   clear zq3
   have M3 := Lib.hid (And.intro m3 (b3))
   clear m3 f3 b3
   have HQ0 := is_any [123] ⟨#[123]⟩ rfl w3 M3.out.1.rd
   rw [hi] at HQ0
   have HQ := Lib.hid HQ0
   clear HQ0
   go_wp2_with fail
   go_at_call 56
   refine (HQ.out).mono ?_
   rintro e w4 ⟨rfl, hb⟩
   have f4 := Fr.of_below (R := R) hb (Nat.le_refl _)
   have h4 := M3.out.1.rd.below hb M3.out.1.rd.lt
   have z4 := f4.size
   clear hb
   have M4 := Lib.hid (And.intro (M3.out.1.call h4 f4) (M3.out.2.fr f4 (by omega)))
   clear h4 f4
   clear HQ
   have HQ0 := take_any [59] ⟨#[59]⟩ rfl w4 M4.out.1.rd
   unfold takeR at HQ0
   rw [hj] at HQ0
   have HQ := Lib.hid HQ0
   clear HQ0
   go_wp2_with fail
   go_at_call 57
   refine (HQ.out).mono ?_
   rintro e w5 ⟨rfl, h5, f5⟩
   have h5 : RdAt w5 R A cp L (st.next) := h5
   have z5 := f5.size
   have M5 := Lib.hid (And.intro (M4.out.1.call h5 f5) (M4.out.2.fr f5 (by omega)))
   clear h5 f5
   clear HQ
   obtain ⟨x0, x1, x2, x3, x4⟩ := M5.out.2.cells
   obtain ⟨⟨y0, y1, y2, y3, y4⟩, g0, g1, g2, g3, g4⟩ := M5.out.1.facts
   go_wp2
   exact M5.out.1.gives' 2 (TreeAt.mk (o := 32) (k := 0) (i := ln) (s := []) (RowAt.nil _ _) ⟨by simp, by omega, by omega⟩) rfl rfl rfl
  | false =>
   by_cases he : st.e = 0 ∧ kd = 0
   ·obtain ⟨rfl, rfl⟩ : [Tr.mk 32 [] 0 ln []] = l ∧ stopR L st true = st1 := by simpa [hi, hj, one, ht, he.1, he.2] using hr
    have HE := Lib.hid he
    clear he
    clear hr
    go_enter Try.func92, Try.ntmps92
    have HQ0 := tok_any 0 W1 M0.out.rd (by omega)
    rw [ht] at HQ0
    unfold tokV at HQ0
    have HQ := Lib.hid HQ0
    clear HQ0
    go_wp2_with fail
    go_at_call 55
    refine (HQ.out).mono ?_
    rintro e w2 ⟨rfl, hb⟩
    have f2 := Fr.of_below (R := R) hb (Nat.le_refl _)
    have h2 := M0.out.rd.below hb M0.out.rd.lt
    have z2 := f2.size
    clear hb
    have M2 := Lib.hid ((M0.out.call h2 f2))
    clear h2 f2
    clear HQ
    have fl := tok_line kd ts tn ln nl w2
    obtain ⟨w3, e3, m3, f3, b3, zq3⟩ := M2.out.box_ (.int .i64 32) (.string ⟨#[]⟩) (.int .i64 0) (.slice none 0 0) (.int .i64 ln)
    have z3 : w2.heap.size < w3.heap.size := by omega
    clear zq3
    have M3 := Lib.hid (And.intro m3 (b3))
    clear m3 f3 b3
    have HQ0 := is_any [123] ⟨#[123]⟩ rfl w3 M3.out.1.rd
    rw [hi] at HQ0
    have HQ := Lib.hid HQ0
    clear HQ0
    go_wp2_with fail
    go_at_call 56
    refine (HQ.out).mono ?_
    rintro e w4 ⟨rfl, hb⟩
    have f4 := Fr.of_below (R := R) hb (Nat.le_refl _)
    have h4 := M3.out.1.rd.below hb M3.out.1.rd.lt
    have z4 := f4.size
    clear hb
    have M4 := Lib.hid (And.intro (M3.out.1.call h4 f4) (M3.out.2.fr f4 (by omega)))
    clear h4 f4
    clear HQ
    have HQ0 := take_any [59] ⟨#[59]⟩ rfl w4 M4.out.1.rd
    unfold takeR at HQ0
    rw [hj] at HQ0
    have HQ := Lib.hid HQ0
    clear HQ0
    go_wp2_with fail
    go_at_call 57
    refine (HQ.out).mono ?_
    rintro e w5 ⟨rfl, h5, f5⟩
    have h5 : RdAt w5 R A cp L (st) := h5
    have z5 := f5.size
    have M5 := Lib.hid (And.intro (M4.out.1.call h5 f5) (M4.out.2.fr f5 (by omega)))
    clear h5 f5
    clear HQ
    have dk : (kd == 0) = true := by simpa using HE.out.2
    obtain ⟨c0, c1, c2, c3⟩ := M5.out.1.rd.cells
    rw [HE.out.1] at c2
    have HQ0 := tok_any 0 w5 M5.out.1.rd (by omega)
    rw [ht] at HQ0
    unfold tokV at HQ0
    have HQ := Lib.hid HQ0
    clear HQ0
    go_wp2_with fail
    go_at_call 55
    refine (HQ.out).mono ?_
    rintro e w6 ⟨rfl, hb⟩
    have f6 := Fr.of_below (R := R) hb (Nat.le_refl _)
    have h6 := M5.out.1.rd.below hb M5.out.1.rd.lt
    have z6 := f6.size
    clear hb
    have M6 := Lib.hid (And.intro (M5.out.1.call h6 f6) (M5.out.2.fr f6 (by omega)))
    clear h6 f6
    clear HQ
    have fk := tok_kind kd ts tn ln nl w6
    have HS := Lib.hid (stop_any true w6 M6.out.1.rd)
    go_wp2_with fail
    go_at_call 45
    refine (HS.out).mono ?_
    rintro e w7 ⟨rfl, h7, f7⟩
    have z7 := f7.size
    have M7 := Lib.hid (And.intro (M6.out.1.call h7 f7) (M6.out.2.fr f7 (by omega)))
    clear h7 f7
    obtain ⟨x0, x1, x2, x3, x4⟩ := M7.out.2.cells
    obtain ⟨⟨y0, y1, y2, y3, y4⟩, g0, g1, g2, g3, g4⟩ := M7.out.1.facts
    go_wp2
    exact M7.out.1.gives' 2 (TreeAt.mk (o := 32) (k := 0) (i := ln) (s := []) (RowAt.nil _ _) ⟨by simp, by omega, by omega⟩) rfl rfl rfl
   ·cases e1 : run L F .stmt st with
    | none => simp [hi, hj, ht, he, e1] at hr
    | some x =>
    obtain ⟨x, s2⟩ := x
    obtain ⟨rfl, rfl⟩ : [Tr.mk 32 [] 0 ln [hd x]] = l ∧ s2 = st1 := by simpa [hi, hj, one, ht, he, e1] using hr
    have H1 := Lib.hid (ih .stmt _ _ _ e1)
    clear hr e1
    go_enter Try.func92, Try.ntmps92
    have HQ0 := tok_any 0 W1 M0.out.rd (by omega)
    rw [ht] at HQ0
    unfold tokV at HQ0
    have HQ := Lib.hid HQ0
    clear HQ0
    go_wp2_with fail
    go_at_call 55
    refine (HQ.out).mono ?_
    rintro e w2 ⟨rfl, hb⟩
    have f2 := Fr.of_below (R := R) hb (Nat.le_refl _)
    have h2 := M0.out.rd.below hb M0.out.rd.lt
    have z2 := f2.size
    clear hb
    have M2 := Lib.hid ((M0.out.call h2 f2))
    clear h2 f2
    clear HQ
    have fl := tok_line kd ts tn ln nl w2
    obtain ⟨w3, e3, m3, f3, b3, zq3⟩ := M2.out.box_ (.int .i64 32) (.string ⟨#[]⟩) (.int .i64 0) (.slice none 0 0) (.int .i64 ln)
    have z3 : w2.heap.size < w3.heap.size := by omega
    clear zq3
    have M3 := Lib.hid (And.intro m3 (b3))
    clear m3 f3 b3
    have HQ0 := is_any [123] ⟨#[123]⟩ rfl w3 M3.out.1.rd
    rw [hi] at HQ0
    have HQ := Lib.hid HQ0
    clear HQ0
    go_wp2_with fail
    go_at_call 56
    refine (HQ.out).mono ?_
    rintro e w4 ⟨rfl, hb⟩
    have f4 := Fr.of_below (R := R) hb (Nat.le_refl _)
    have h4 := M3.out.1.rd.below hb M3.out.1.rd.lt
    have z4 := f4.size
    clear hb
    have M4 := Lib.hid (And.intro (M3.out.1.call h4 f4) (M3.out.2.fr f4 (by omega)))
    clear h4 f4
    clear HQ
    have HQ0 := take_any [59] ⟨#[59]⟩ rfl w4 M4.out.1.rd
    unfold takeR at HQ0
    rw [hj] at HQ0
    have HQ := Lib.hid HQ0
    clear HQ0
    go_wp2_with fail
    go_at_call 57
    refine (HQ.out).mono ?_
    rintro e w5 ⟨rfl, h5, f5⟩
    have h5 : RdAt w5 R A cp L (st) := h5
    have z5 := f5.size
    have M5 := Lib.hid (And.intro (M4.out.1.call h5 f5) (M4.out.2.fr f5 (by omega)))
    clear h5 f5
    clear HQ
    by_cases he0 : st.e = 0
    ·have de : (st.e == 0) = true := by simpa using he0
     have dk : (kd == 0) = false := by simpa using fun h => he ⟨he0, h⟩
     obtain ⟨c0, c1, c2, c3⟩ := M5.out.1.rd.cells
     rw [he0] at c2
     have HQ0 := tok_any 0 w5 M5.out.1.rd (by omega)
     rw [ht] at HQ0
     unfold tokV at HQ0
     have HQ := Lib.hid HQ0
     clear HQ0
     go_wp2_with fail
     go_at_call 55
     refine (HQ.out).mono ?_
     rintro e w6 ⟨rfl, hb⟩
     have f6 := Fr.of_below (R := R) hb (Nat.le_refl _)
     have h6 := M5.out.1.rd.below hb M5.out.1.rd.lt
     have z6 := f6.size
     clear hb
     have M6 := Lib.hid (And.intro (M5.out.1.call h6 f6) (M5.out.2.fr f6 (by omega)))
     clear h6 f6
     clear HQ
     have fk := tok_kind kd ts tn ln nl w6
     go_wp2_with fail
     go_at_call 58
     refine (H1.out w6 M6.out.1.rd).mono ?_
     rintro e w7 ⟨v7, rfl, h7, f7, t7⟩
     obtain ⟨A7, c7, rfl, -, -⟩ := t7.form
     have z7 := f7.size
     have M7 := Lib.hid (And.intro (M6.out.1.call h7 f7) (And.intro (M6.out.2.fr f7 (by omega)) (t7.af (B := w2.heap.size) (by omega))))
     clear h7 f7 t7
     obtain ⟨w8, e8, m8, f8, b8, zq8⟩ := M7.out.1.arr #[.int .i64 (hd x).op, .string (bs (hd x).s), .int .i64 (hd x).n, .slice A7 (hd x).l.length c7, .int .i64 (hd x).line]
     have z8 : w7.heap.size < w8.heap.size := by omega
     clear zq8
     have M8 := Lib.hid (And.intro m8 (And.intro (M7.out.2.1.fr f8 (by omega)) (And.intro (M7.out.2.2.up f8 (by omega)) (b8))))
     clear m8 f8 b8
     have r9 := RowAt.one M8.out.2.2.1 M8.out.2.2.2 rfl (show Af w2.heap.size w8 w7.heap.size from ⟨by omega, by omega⟩)
     have M9 := Lib.hid (And.intro M8.out.1 (And.intro M8.out.2.1 (r9)))
     clear r9
     obtain ⟨x0, x1, x2, x3, x4⟩ := M9.out.2.1.cells
     obtain ⟨q0, q1, q2, q3, q4⟩ := M9.out.2.1.thaw
     obtain ⟨w10, e10⟩ : ∃ W, w8.setCell ⟨w2.heap.size, 3, none⟩ (.slice (some ⟨w7.heap.size, 0, none⟩) 1 1) = W := ⟨_, rfl⟩
     have m10 := M9.out.1.set (B := w2.heap.size) (by omega) 3 (.slice (some ⟨w7.heap.size, 0, none⟩) 1 1)
     have i10_0 := M9.out.2.1.put3 (.slice (some ⟨w7.heap.size, 0, none⟩) 1 1)
     have i10_1 := M9.out.2.2.set 3 (.slice (some ⟨w7.heap.size, 0, none⟩) 1 1)
     have z10 : w10.heap.size = w8.heap.size := by rw [← e10]; simp
     rw [e10] at m10 i10_0 i10_1
     have M10 := Lib.hid (And.intro m10 (And.intro i10_0 (i10_1)))
     clear m10 i10_0 i10_1
     obtain ⟨o0, o1, o2, o3, o4⟩ := M10.out.2.1.cells
     obtain ⟨⟨y0, y1, y2, y3, y4⟩, g0, g1, g2, g3, g4⟩ := M10.out.1.facts
     go_wp2
     exact M10.out.1.gives' 2 (TreeAt.mk (o := 32) (k := 0) (i := ln) (s := []) (M10.out.2.2.lower (by omega)) ⟨by simp, by omega, by omega⟩) rfl rfl rfl
    ·have de : (st.e == 0) = false := by simpa using he0
     obtain ⟨c0, c1, c2, c3⟩ := M5.out.1.rd.cells
     go_wp2_with fail
     go_at_call 58
     refine (H1.out w5 M5.out.1.rd).mono ?_
     rintro e w6 ⟨v6, rfl, h6, f6, t6⟩
     obtain ⟨A6, c6, rfl, -, -⟩ := t6.form
     have z6 := f6.size
     have M6 := Lib.hid (And.intro (M5.out.1.call h6 f6) (And.intro (M5.out.2.fr f6 (by omega)) (t6.af (B := w2.heap.size) (by omega))))
     clear h6 f6 t6
     obtain ⟨w7, e7, m7, f7, b7, zq7⟩ := M6.out.1.arr #[.int .i64 (hd x).op, .string (bs (hd x).s), .int .i64 (hd x).n, .slice A6 (hd x).l.length c6, .int .i64 (hd x).line]
     have z7 : w6.heap.size < w7.heap.size := by omega
     clear zq7
     have M7 := Lib.hid (And.intro m7 (And.intro (M6.out.2.1.fr f7 (by omega)) (And.intro (M6.out.2.2.up f7 (by omega)) (b7))))
     clear m7 f7 b7
     have r8 := RowAt.one M7.out.2.2.1 M7.out.2.2.2 rfl (show Af w2.heap.size w7 w6.heap.size from ⟨by omega, by omega⟩)
     have M8 := Lib.hid (And.intro M7.out.1 (And.intro M7.out.2.1 (r8)))
     clear r8
     obtain ⟨x0, x1, x2, x3, x4⟩ := M8.out.2.1.cells
     obtain ⟨q0, q1, q2, q3, q4⟩ := M8.out.2.1.thaw
     obtain ⟨w9, e9⟩ : ∃ W, w7.setCell ⟨w2.heap.size, 3, none⟩ (.slice (some ⟨w6.heap.size, 0, none⟩) 1 1) = W := ⟨_, rfl⟩
     have m9 := M8.out.1.set (B := w2.heap.size) (by omega) 3 (.slice (some ⟨w6.heap.size, 0, none⟩) 1 1)
     have i9_0 := M8.out.2.1.put3 (.slice (some ⟨w6.heap.size, 0, none⟩) 1 1)
     have i9_1 := M8.out.2.2.set 3 (.slice (some ⟨w6.heap.size, 0, none⟩) 1 1)
     have z9 : w9.heap.size = w7.heap.size := by rw [← e9]; simp
     rw [e9] at m9 i9_0 i9_1
     have M9 := Lib.hid (And.intro m9 (And.intro i9_0 (i9_1)))
     clear m9 i9_0 i9_1
     obtain ⟨o0, o1, o2, o3, o4⟩ := M9.out.2.1.cells
     obtain ⟨⟨y0, y1, y2, y3, y4⟩, g0, g1, g2, g3, g4⟩ := M9.out.1.facts
     go_wp2
     exact M9.out.1.gives' 2 (TreeAt.mk (o := 32) (k := 0) (i := ln) (s := []) (M9.out.2.2.lower (by omega)) ⟨by simp, by omega, by omega⟩) rfl rfl rfl
end
end
end Go.Proofs.Ytejbdoiamhfbjaa
