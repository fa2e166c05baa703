/- jtree.group.has, wanted, oneOf, wording.allows, shape.fits. jtree.wording.allows. jtree.shape.fits. jtree.sound, Right, RightExpr. -/
import Derived.Test.YtikbfoichhkeaaaGreatProg
import Derived.StillTailTactics
import Derived.Test.YtikbfoichhkeaaaGreatVm15
import Derived.Test.YtikbfoichhkeaaaGreatVm16
set_option linter.unusedSimpArgs false
set_option linter.unusedVariables false
set_option maxRecDepth 100000
set_option maxHeartbeats 40000000
namespace Go.Proofs.YtikbfoichhkeaaaGreat
section
open Go.RowKit Go.Proofs
theorem has_any (g op : Int) (w : World) : Calls Tryz.prog 54 #[.int .i64 g, .int .i64 op] w fun e w' => e = .returned (.bool (hasB g op)) ∧ w = w' := by
 by_cases g1 : g = 1
 ·subst g1
  go_enter Tryz.func54, Tryz.ntmps54
  go_wp2
  all_goals
   go_ret
   exact ⟨ret_b (by simp [hasB]; first | done | rfl | omega), rfl⟩
 by_cases g2 : g = 2
 ·subst g2
  go_enter Tryz.func54, Tryz.ntmps54
  go_wp2
  all_goals
   go_ret
   exact ⟨ret_b (by simp [hasB]; try rfl), rfl⟩
 by_cases g3 : g = 3
 ·subst g3
  go_enter Tryz.func54, Tryz.ntmps54
  go_wp2
  all_goals
   go_ret
   exact ⟨ret_b (by simp [hasB]; try rfl), rfl⟩
 by_cases g5 : g = 5
 ·subst g5
  by_cases a1 : op = 13
  ·subst a1
   go_enter Tryz.func54, Tryz.ntmps54
   go_wp2
   go_ret
   exact ⟨ret_b (by simp [hasB]), rfl⟩
  ·by_cases a2 : op = 14
   ·subst a2
    go_enter Tryz.func54, Tryz.ntmps54
    go_wp2
    go_ret
    exact ⟨ret_b (by simp [hasB]), rfl⟩
   ·have d1 : (op == 13) = false := by simpa using a1
    have d2 : (op == 14) = false := by simpa using a2
    have H := Lib.hid (show hasB 5 op = decide (op = 1) by simp [hasB, a1, a2])
    clear a1 a2
    go_enter Tryz.func54, Tryz.ntmps54
    go_wp2
    go_ret
    exact ⟨ret_b (by rw [H.out]; rfl), rfl⟩
 by_cases g4 : g = 4
 ·subst g4
  go_enter Tryz.func54, Tryz.ntmps54
  go_wp2
  all_goals
   go_ret
   exact ⟨ret_b (by simp [hasB]; try rfl), rfl⟩
 have e1 : (g == 1) = false := by simpa using g1
 have e2 : (g == 2) = false := by simpa using g2
 have e3 : (g == 3) = false := by simpa using g3
 have e5 : (g == 5) = false := by simpa using g5
 have e4 : (g == 4) = false := by simpa using g4
 have HH := Lib.hid (show hasB g op = (decide (1 ≤ op) && (decide (op ≤ 23) && !decide (op = 12))) by unfold hasB; rw [if_neg g1, if_neg g2, if_neg g3, if_neg g5, if_neg g4])
 clear g1 g2 g3 g4 g5
 go_enter Tryz.func54, Tryz.ntmps54
 go_wp2
 all_goals
  go_ret
  exact ⟨ret_b (by rw [HH.out, Bool.eq_iff_iff]; simp <;> omega), rfl⟩
theorem wanted_any (op i count : Int) (w : World) (h0 : 0 ≤ count) (h1 : count ≤ 9223372036854775807) : Calls Tryz.prog 125 #[.int .i64 op, .int .i64 i, .int .i64 count] w fun e w' => e = .returned (.int .i64 (wantedB op i count)) ∧ w = w' := by
 by_cases o11 : op = 11
 ·subst o11
  go_enter Tryz.func125, Tryz.ntmps125
  go_wp2
  go_ret
  exact ⟨ret_i (by first | rfl | (simp [wantedB])), rfl⟩
 by_cases o32 : op = 32
 ·subst o32
  go_enter Tryz.func125, Tryz.ntmps125
  go_wp2
  go_ret
  exact ⟨ret_i (by first | rfl | (simp [wantedB])), rfl⟩
 by_cases o38 : op = 38
 ·subst o38
  go_enter Tryz.func125, Tryz.ntmps125
  go_wp2
  go_ret
  exact ⟨ret_i (by first | rfl | (simp [wantedB])), rfl⟩
 by_cases o17 : op = 17
 ·subst o17
  by_cases hi : i = 0
  ·subst hi
   go_enter Tryz.func125, Tryz.ntmps125
   go_wp2
   go_ret
   exact ⟨ret_i (by first | rfl | (simp [wantedB])), rfl⟩
  ·have d : (i == 0) = false := by simpa using hi
   have H := Lib.hid hi
   clear hi
   go_enter Tryz.func125, Tryz.ntmps125
   go_wp2
   go_ret
   exact ⟨ret_i (by first | rfl | (simp [wantedB, H.out])), rfl⟩
 by_cases o33 : op = 33
 ·subst o33
  by_cases hi : 0 < i
  ·have H := Lib.hid hi
   go_enter Tryz.func125, Tryz.ntmps125
   go_wp2
   go_ret
   exact ⟨ret_i (by first | rfl | (simp [wantedB, H.out])), rfl⟩
  ·have H := Lib.hid hi
   go_enter Tryz.func125, Tryz.ntmps125
   go_wp2
   go_ret
   exact ⟨ret_i (by first | rfl | (simp [wantedB, H.out])), rfl⟩
 by_cases o34 : op = 34
 ·subst o34
  by_cases hi : 0 < i
  ·have H := Lib.hid hi
   go_enter Tryz.func125, Tryz.ntmps125
   go_wp2
   go_ret
   exact ⟨ret_i (by first | rfl | (simp [wantedB, H.out])), rfl⟩
  ·have H := Lib.hid hi
   go_enter Tryz.func125, Tryz.ntmps125
   go_wp2
   go_ret
   exact ⟨ret_i (by first | rfl | (simp [wantedB, H.out])), rfl⟩
 by_cases o35 : op = 35
 ·subst o35
  by_cases hi : 0 < i
  ·have H := Lib.hid hi
   go_enter Tryz.func125, Tryz.ntmps125
   go_wp2
   go_ret
   exact ⟨ret_i (by first | rfl | (simp [wantedB, H.out])), rfl⟩
  ·have H := Lib.hid hi
   go_enter Tryz.func125, Tryz.ntmps125
   go_wp2
   go_ret
   exact ⟨ret_i (by first | rfl | (simp [wantedB, H.out])), rfl⟩
 by_cases o10 : op = 10
 ·subst o10
  by_cases hi : i < count - 1
  ·have H := Lib.hid hi
   go_enter Tryz.func125, Tryz.ntmps125
   go_wp2
   go_ret
   exact ⟨ret_i (by first | rfl | (simp [wantedB, H.out])), rfl⟩
  ·have H := Lib.hid hi
   go_enter Tryz.func125, Tryz.ntmps125
   go_wp2
   go_ret
   exact ⟨ret_i (by first | rfl | (simp [wantedB, H.out])), rfl⟩
 by_cases o41 : op = 41
 ·subst o41
  by_cases hi : i < count - 1
  ·have H := Lib.hid hi
   go_enter Tryz.func125, Tryz.ntmps125
   go_wp2
   go_ret
   exact ⟨ret_i (by first | rfl | (simp [wantedB, H.out])), rfl⟩
  ·have H := Lib.hid hi
   go_enter Tryz.func125, Tryz.ntmps125
   go_wp2
   go_ret
   exact ⟨ret_i (by first | rfl | (simp [wantedB, H.out])), rfl⟩
 have d11 : (op == 11) = false := by simpa using o11
 have d32 : (op == 32) = false := by simpa using o32
 have d17 : (op == 17) = false := by simpa using o17
 have d33 : (op == 33) = false := by simpa using o33
 have d34 : (op == 34) = false := by simpa using o34
 have d35 : (op == 35) = false := by simpa using o35
 have d10 : (op == 10) = false := by simpa using o10
 have d41 : (op == 41) = false := by simpa using o41
 have d38 : (op == 38) = false := by simpa using o38
 have H := Lib.hid (show wantedB op i count = 0 by unfold wantedB; simp [o11, o32, o38, o17, o33, o34, o35, o10, o41])
 clear o11 o32 o38 o17 o33 o34 o35 o10 o41
 go_enter Tryz.func125, Tryz.ntmps125
 go_wp2
 go_ret
 exact ⟨ret_i (by first | rfl | (rw [H.out])), rfl⟩
def StrRow (W : World) (v : Value) (ts : List Bs) : Prop :=
 ∃ A cap, v = .slice A ts.length cap ∧ (ts.length ≤ cap ∧ cap ≤ maxLen) ∧ (0 < ts.length → ∃ g, A = some ⟨g, 0, none⟩ ∧ g < W.heap.size ∧ ∀ (j : Nat) t, ts[j]? = some t → W.cell? ⟨g, j, none⟩ = some (.string (bs t)))
theorem oneOf_any (s : Bs) (v : Value) (ts : List Bs) (w : World) (hv : StrRow w v ts) : Calls Tryz.prog 138 #[.string (bs s), v] w fun e w' => e = .returned (.bool (ts.contains s)) ∧ w = w' := by
 obtain ⟨A, cap, rfl, ⟨hc1, hc2⟩, hA⟩ := hv
 unfold maxLen at hc2
 have HA := Lib.hid hA
 clear hA
 obtain ⟨len, hl⟩ : ∃ k, ts.length = k := ⟨_, rfl⟩
 have HL := Lib.hid hl
 rw [hl] at hc1 ⊢
 clear hl
 go_enter Tryz.func138, Tryz.ntmps138
 go_wp2
 go_loop [9] (fun i => ∃ k : Nat, k ≤ len ∧ i = .int .i64 k ∧ s ∉ ts.take k) (fun i => len - (intOf i).toNat)
 case atStart => exact ⟨0, Nat.zero_le _, rfl, by simp⟩
 case round =>
  obtain ⟨k, hk, rfl, hno⟩ := hrel
  have HN := Lib.hid hno
  clear hno
  by_cases hlt : k < len
  ·obtain ⟨g, rfl, hg, hcell⟩ := HA.out (by rw [HL.out]; omega)
   obtain ⟨t, et⟩ : ∃ t, ts[k]? = some t := ⟨_, List.getElem?_eq_getElem (by rw [HL.out]; exact hlt)⟩
   have c := hcell k t et
   have HT := Lib.hid et
   clear et hcell
   by_cases h : s = t
   ·have d : ((bs s).toList == (bs t).toList) = true := by rw [bs_eq_iff]; simpa using h
    have HH := Lib.hid (show ts.contains s = true by
     rw [List.contains_iff_mem, h]
     exact List.mem_of_getElem? HT.out)
    clear h
    go_wp2
    go_ret
    exact ⟨ret_b (by have := HH.out; simpa using this), rfl⟩
   ·have d : ((bs s).toList == (bs t).toList) = false := by rw [bs_eq_iff]; simpa using h
    have HH := Lib.hid h
    clear h
    go_wp2
    go_round
    case rel => exact ⟨k + 1, by omega, by go_num, by
     rw [List.take_add_one, HT.out]
     intro hm
     rcases List.mem_append.1 hm with hm | hm
     ·exact HN.out hm
     ·simp at hm
      exact HH.out hm⟩
    case measure => simp [intOf]; omega
  ·obtain rfl : k = len := by omega
   go_wp2
   go_ret
   exact ⟨ret_b (by
    have := HN.out
    rw [List.take_of_length_le (by rw [HL.out]; exact Nat.le_refl _)] at this
    simpa using this), rfl⟩
open Go.RowKit Go.Proofs
theorem sign_row (w : World) : StrRow (w.alloc (.cells #[.string ⟨#[43]⟩, .string ⟨#[45]⟩, .string ⟨#[42]⟩, .string ⟨#[60]⟩, .string ⟨#[60, 61]⟩, .string ⟨#[61, 61, 61]⟩, .string ⟨#[33, 61, 61]⟩] 9)) (.slice (some ⟨w.heap.size, 0, none⟩) 7 7) signsB := by
 refine ⟨some ⟨w.heap.size, 0, none⟩, 7, rfl, ⟨Nat.le_refl _, by unfold maxLen; decide⟩, fun _ => ⟨w.heap.size, rfl, by simp, fun j t hj => ?_⟩⟩
 rw [cell_of_row _ _ j _ 9 _ (heap_alloc_new w _)]
 match j, hj with
 | 0, hj => simp [signsB] at hj; subst hj; rfl
 | 1, hj => simp [signsB] at hj; subst hj; rfl
 | 2, hj => simp [signsB] at hj; subst hj; rfl
 | 3, hj => simp [signsB] at hj; subst hj; rfl
 | 4, hj => simp [signsB] at hj; subst hj; rfl
 | 5, hj => simp [signsB] at hj; subst hj; rfl
 | 6, hj => simp [signsB] at hj; subst hj; rfl
 | j + 7, hj => simp [signsB] at hj
theorem allows_any (k : Int) (s : Bs) (w : World) (hs : s.length ≤ maxLen) : Calls Tryz.prog 124 #[.int .i64 k, .string (bs s)] w fun e w' => e = .returned (.bool (allowsB k s)) ∧ Below w.heap.size w w' := by
 have HN := fun w => isName_any (bs s) w (by rw [bs_size]; exact hs)
 have HW := fun w => isWord_any (bs s) w (by rw [bs_size]; exact hs)
 have HO := fun v w (h : StrRow w v signsB) => oneOf_any s v signsB w h
 have hem : ((bs s).toList == []) = s.isEmpty := by
  rw [Lib.toList_data, bs_list, Bool.eq_iff_iff]
  simp
 rw [bs_list] at HN HW
 have HA : allowsB k s = if k = 1 then true else if k = 2 then signsB.contains s else if k = 4 then (s.isEmpty || isNameL s) else if k = 5 then (isWordL s || isNameL s) else if k = 3 then isNameL s else s.isEmpty := rfl
 obtain ⟨a, ea⟩ : ∃ a, isNameL s = a := ⟨_, rfl⟩
 obtain ⟨b, eb⟩ : ∃ a, isWordL s = a := ⟨_, rfl⟩
 obtain ⟨c, ec⟩ : ∃ a, signsB.contains s = a := ⟨_, rfl⟩
 obtain ⟨d, ed⟩ : ∃ a, s.isEmpty = a := ⟨_, rfl⟩
 obtain ⟨r, er⟩ : ∃ a, allowsB k s = a := ⟨_, rfl⟩
 rw [er, ea, eb, ec, ed] at HA
 rw [ea] at HN
 rw [eb] at HW
 rw [ed] at hem
 simp only [ec] at HO
 rw [er]
 have HN := Lib.hid HN
 have HW := Lib.hid HW
 have HO := Lib.hid HO
 have HR := Lib.hid (sign_row w)
 clear er ea eb ec ed hs
 by_cases k1 : k = 1
 ·subst k1
  have hr : r = true := by rw [HA]; simp
  clear HA
  subst hr
  go_enter Tryz.func124, Tryz.ntmps124
  go_wp2
  go_ret
  exact ⟨rfl, Below.refl _ _⟩
 by_cases k2 : k = 2
 ·subst k2
  have hr : r = c := by rw [HA]; simp
  clear HA
  subst hr
  go_enter Tryz.func124, Tryz.ntmps124
  go_wp2_with (first | (go_at_call 138; refine (HO.out _ _ HR.out).mono ?_; rintro e w1 ⟨rfl, rfl⟩))
  go_ret
  exact ⟨rfl, (Below.refl _ w).alloc (Nat.le_refl _) _⟩
 by_cases k4 : k = 4
 ·subst k4
  cases d with
  | true =>
   have hr : r = true := by rw [HA]; simp
   clear HA
   subst hr
   go_enter Tryz.func124, Tryz.ntmps124
   go_wp2
   go_ret
   exact ⟨rfl, Below.refl _ _⟩
  | false =>
   have hr : r = a := by rw [HA]; simp
   clear HA
   subst hr
   go_enter Tryz.func124, Tryz.ntmps124
   go_wp2_with (first | (go_at_call 139; refine (HN.out _).mono ?_; rintro e w1 ⟨rfl, hB1⟩))
   go_ret
   exact ⟨rfl, hB1⟩
 by_cases k5 : k = 5
 ·subst k5
  cases b with
  | true =>
   have hr : r = true := by rw [HA]; simp
   clear HA
   subst hr
   go_enter Tryz.func124, Tryz.ntmps124
   go_wp2_with (first | (go_at_call 140; refine (HW.out _).mono ?_; rintro e w2 ⟨rfl, hB2⟩))
   go_ret
   exact ⟨rfl, hB2⟩
  | false =>
   have hr : r = a := by rw [HA]; simp
   clear HA
   subst hr
   go_enter Tryz.func124, Tryz.ntmps124
   go_wp2_with (first | (go_at_call 140; refine (HW.out _).mono ?_; rintro e w2 ⟨rfl, hB2⟩) | (go_at_call 139; refine (HN.out _).mono ?_; rintro e w1 ⟨rfl, hB1⟩))
   go_ret
   exact ⟨rfl, hB2.trans (hB1.mono hB2.size)⟩
 by_cases k3 : k = 3
 ·subst k3
  have hr : r = a := by rw [HA]; simp
  clear HA
  subst hr
  go_enter Tryz.func124, Tryz.ntmps124
  go_wp2_with (first | (go_at_call 139; refine (HN.out _).mono ?_; rintro e w1 ⟨rfl, hB1⟩))
  go_ret
  exact ⟨rfl, hB1⟩
 have e1 : (k == 1) = false := by simpa using k1
 have e2 : (k == 2) = false := by simpa using k2
 have e3 : (k == 3) = false := by simpa using k3
 have e4 : (k == 4) = false := by simpa using k4
 have e5 : (k == 5) = false := by simpa using k5
 rw [if_neg k1, if_neg k2, if_neg k4, if_neg k5, if_neg k3] at HA
 have HA := Lib.hid HA
 clear k1 k2 k3 k4 k5
 go_enter Tryz.func124, Tryz.ntmps124
 go_wp2
 go_ret
 exact ⟨ret_b HA.out.symm, Below.refl _ _⟩
open Go.RowKit Go.Proofs
theorem fits_any (sh : Sh) (t : Tr) (v : Value) (w : World) (ht : At w w.heap.size t v) :
  Calls Tryz.prog 99 #[shV sh, v] w fun e w' => e = .returned (.bool (fitsB sh t)) ∧ Below w.heap.size w w' := by
 obtain ⟨k, num, lo, hi⟩ := sh
 rw [At_iff] at ht
 obtain ⟨u, rfl, ⟨A, cap, rfl, hc, ha⟩, hf⟩ := ht
 have HA := Lib.hid ha
 have HF : fitsB (k, num, lo, hi) t = (allowsB k t.s && (decide (0 ≤ t.n) && (decide (t.n ≤ num) && (decide (lo ≤ t.l.length) && (decide ((t.l.length : Int) ≤ hi) && partsB t.op t.l.length 0 t.l))))) := rfl
 have HC := fun w => allows_any k t.s w hf.1
 unfold nodeV shV
 obtain ⟨r, er⟩ : ∃ r, fitsB (k, num, lo, hi) t = r := ⟨_, rfl⟩
 obtain ⟨al, ea⟩ : ∃ r, allowsB k t.s = r := ⟨_, rfl⟩
 obtain ⟨n, en⟩ : ∃ r, t.n = r := ⟨_, rfl⟩
 obtain ⟨op, eo⟩ : ∃ r, t.op = r := ⟨_, rfl⟩
 obtain ⟨l, el⟩ : ∃ r, t.l = r := ⟨_, rfl⟩
 obtain ⟨len, ele⟩ : ∃ r, l.length = r := ⟨_, rfl⟩
 rw [er, ea, en, eo, el, ele] at HF
 rw [el] at HA hc
 rw [ele] at HA hc
 rw [er, en, eo, el, ele]
 rw [ea] at HC
 have HC := Lib.hid HC
 have HL := Lib.hid ele
 unfold maxLen at hc
 obtain ⟨hc1, hc2⟩ := hc
 clear er ea en eo el ele ha hf
 have main : ∀ (al' : Bool), al = al' → Calls Tryz.prog 99 #[.agg #[.int .i64 k, .int .i64 num, .int .i64 lo, .int .i64 hi], .agg #[.int .i64 op, .string (bs t.s), .int .i64 n, .slice A len cap, .int .i64 t.line]] w fun e w' => e = .returned (.bool r) ∧ Below w.heap.size w w' := by
  intro al' e
  subst e
  have boxes : ∀ (W W' : World), ((w.alloc (.cells #[.int .i64 k, .int .i64 num, .int .i64 lo, .int .i64 hi] 151)).alloc (.cells #[.int .i64 op, .string (bs t.s), .int .i64 n, .slice A len cap, .int .i64 t.line] 24)) = W → Below W.heap.size W W' →
    (W.heap.size = w.heap.size + 2 ∧ Below w.heap.size w W ∧ Below w.heap.size w W') ∧ (W'.cell? ⟨w.heap.size, 0, none⟩ = some (.int .i64 k) ∧ W'.cell? ⟨w.heap.size, 1, none⟩ = some (.int .i64 num) ∧ W'.cell? ⟨w.heap.size, 2, none⟩ = some (.int .i64 lo) ∧ W'.cell? ⟨w.heap.size, 3, none⟩ = some (.int .i64 hi)) ∧
    (W'.cell? ⟨w.heap.size + 1, 0, none⟩ = some (.int .i64 op) ∧ W'.cell? ⟨w.heap.size + 1, 2, none⟩ = some (.int .i64 n) ∧ W'.cell? ⟨w.heap.size + 1, 3, none⟩ = some (.slice A len cap)) := by
   rintro W W' rfl h
   have hb : Below w.heap.size w ((w.alloc (.cells #[.int .i64 k, .int .i64 num, .int .i64 lo, .int .i64 hi] 151)).alloc (.cells #[.int .i64 op, .string (bs t.s), .int .i64 n, .slice A len cap, .int .i64 t.line] 24)) := ((Below.refl _ w).alloc (Nat.le_refl _) _).alloc (by simp) _
   have hc : ∀ (j : Nat) (o : Nat) (x : Value), (j = w.heap.size ∨ j = w.heap.size + 1) → ((w.alloc (.cells #[.int .i64 k, .int .i64 num, .int .i64 lo, .int .i64 hi] 151)).alloc (.cells #[.int .i64 op, .string (bs t.s), .int .i64 n, .slice A len cap, .int .i64 t.line] 24)).cell? ⟨j, o, none⟩ = some x → W'.cell? ⟨j, o, none⟩ = some x := fun j o x hj hx => (h.cell (p := ⟨j, o, none⟩) (by simp; omega)).trans hx
   refine ⟨⟨by simp, hb, hb.trans (h.mono (by simp; omega))⟩, ⟨hc _ _ _ (.inl rfl) (by go_simp), hc _ _ _ (.inl rfl) (by go_simp), hc _ _ _ (.inl rfl) (by go_simp), hc _ _ _ (.inl rfl) (by go_simp)⟩, ⟨hc _ _ _ (.inr rfl) (by go_simp), hc _ _ _ (.inr rfl) (by go_simp), hc _ _ _ (.inr rfl) (by go_simp)⟩⟩
  have HB := Lib.hid boxes
  clear boxes
  cases al with
  | false =>
   have HR := Lib.hid (show r = false by rw [HF]; simp)
   clear HF
   go_enter Tryz.func99, Tryz.ntmps99
   go_wp2_with (go_at_call 124; refine (HC.out _).mono ?_; rintro e w1 ⟨rfl, hb⟩; obtain ⟨⟨hz, hbw, hb1⟩, ⟨c0, c1, c2, c3⟩, ⟨d0, d2, d3⟩⟩ := HB.out _ _ rfl hb)
   go_ret
   exact ⟨ret_b HR.out.symm, hb1⟩
  | true =>
   by_cases h1 : 0 ≤ n
   case neg =>
    have HR := Lib.hid (show r = false by rw [HF]; simp [h1])
    have g1 : n < 0 := by omega
    clear HF h1
    go_enter Tryz.func99, Tryz.ntmps99
    go_wp2_with (go_at_call 124; refine (HC.out _).mono ?_; rintro e w1 ⟨rfl, hb⟩; obtain ⟨⟨hz, hbw, hb1⟩, ⟨c0, c1, c2, c3⟩, ⟨d0, d2, d3⟩⟩ := HB.out _ _ rfl hb)
    go_ret
    exact ⟨ret_b HR.out.symm, hb1⟩
   by_cases h2 : n ≤ num
   case neg =>
    have HR := Lib.hid (show r = false by rw [HF]; simp [h2])
    have g1 : ¬ n < 0 := by omega
    have g2 : num < n := by omega
    clear HF h1 h2
    go_enter Tryz.func99, Tryz.ntmps99
    go_wp2_with (go_at_call 124; refine (HC.out _).mono ?_; rintro e w1 ⟨rfl, hb⟩; obtain ⟨⟨hz, hbw, hb1⟩, ⟨c0, c1, c2, c3⟩, ⟨d0, d2, d3⟩⟩ := HB.out _ _ rfl hb)
    go_ret
    exact ⟨ret_b HR.out.symm, hb1⟩
   by_cases h3 : lo ≤ len
   case neg =>
    have HR := Lib.hid (show r = false by rw [HF]; simp [h3])
    have g1 : ¬ n < 0 := by omega
    have g2 : ¬ num < n := by omega
    have g3 : (len : Int) < lo := by omega
    clear HF h1 h2 h3
    go_enter Tryz.func99, Tryz.ntmps99
    go_wp2_with (go_at_call 124; refine (HC.out _).mono ?_; rintro e w1 ⟨rfl, hb⟩; obtain ⟨⟨hz, hbw, hb1⟩, ⟨c0, c1, c2, c3⟩, ⟨d0, d2, d3⟩⟩ := HB.out _ _ rfl hb)
    go_ret
    exact ⟨ret_b HR.out.symm, hb1⟩
   by_cases h4 : (len : Int) ≤ hi
   case neg =>
    have HR := Lib.hid (show r = false by rw [HF]; simp [h4])
    have g1 : ¬ n < 0 := by omega
    have g2 : ¬ num < n := by omega
    have g3 : ¬ (len : Int) < lo := by omega
    have g4 : hi < len := by omega
    clear HF h1 h2 h3 h4
    go_enter Tryz.func99, Tryz.ntmps99
    go_wp2_with (go_at_call 124; refine (HC.out _).mono ?_; rintro e w1 ⟨rfl, hb⟩; obtain ⟨⟨hz, hbw, hb1⟩, ⟨c0, c1, c2, c3⟩, ⟨d0, d2, d3⟩⟩ := HB.out _ _ rfl hb)
    go_ret
    exact ⟨ret_b HR.out.symm, hb1⟩
   have HR := Lib.hid (show r = partsB op len 0 l by rw [HF]; simp [h1, h2, h3, h4])
   have g1 : ¬ n < 0 := by omega
   have g2 : ¬ num < n := by omega
   have g3 : ¬ (len : Int) < lo := by omega
   have g4 : ¬ hi < len := by omega
   clear HF h1 h2 h3 h4
   go_enter Tryz.func99, Tryz.ntmps99
   go_wp2_with (go_at_call 124; refine (HC.out _).mono ?_; rintro e w1 ⟨rfl, hb⟩; obtain ⟨⟨hz, hbw, hb1⟩, ⟨c0, c1, c2, c3⟩, ⟨d0, d2, d3⟩⟩ := HB.out _ _ rfl hb)
   clear c0 c1 c2 c3 d2
   go_loopw [44] (fun i wr => ∃ k : Nat, k ≤ len ∧ i = .int .i64 k ∧ (∀ (j : Nat) x, j < k → l[j]? = some x → hasB (wantedB op j len) x.op = true) ∧ Below w1.heap.size w1 wr) (fun i _ => len - (intOf i).toNat)
   case atStart => exact ⟨0, Nat.zero_le _, rfl, fun _ _ h => absurd h (by omega), Below.refl _ _⟩
   case round =>
    obtain ⟨k, hk, rfl, hpre, hB⟩ := hrel
    have HP := Lib.hid hpre
    clear hpre
    have hs1 := hb.size
    have e0 := (hB.cell (p := ⟨w.heap.size + 1, 0, none⟩) (by simp; omega)).trans d0
    have e3 := (hB.cell (p := ⟨w.heap.size + 1, 3, none⟩) (by simp; omega)).trans d3
    have hbr := hb1.trans (hB.mono hb1.size)
    by_cases hlt : k < len
    ·obtain ⟨ga, fa, rfl, hga, HA⟩ := HA.out (by omega)
     obtain ⟨x, ex⟩ : ∃ x, l[k]? = some x := ⟨_, List.getElem?_eq_getElem (by rw [HL.out]; exact hlt)⟩
     obtain ⟨vx, hx, x0, x1, x2, x3, x4⟩ := AtL.get l k x (AtL.keep (W' := wr) (n' := w.heap.size) l HA hga (Nat.le_refl _) fun _ hp => hbr.cell hp) ex
     have hvs : ∃ A c, vx = .slice A x.l.length c := by
      rw [At_iff] at hx
      obtain ⟨u', e', ⟨A', c', rfl, _⟩, _⟩ := hx
      unfold nodeV at e'
      simp at e'
      exact ⟨A', c', e'⟩
     obtain ⟨Ax, cx, rfl⟩ := hvs
     have EX := Lib.hid ex
     have HW := Lib.hid (fun w => wanted_any op k len w (by omega) (by omega))
     have HH := Lib.hid (fun w => has_any (wantedB op k len) x.op w)
     obtain ⟨g, eg⟩ : ∃ g, wantedB op k len = g := ⟨_, rfl⟩
     obtain ⟨q, eq⟩ : ∃ q, hasB g x.op = q := ⟨_, rfl⟩
     rw [eg] at HW HH
     rw [eq] at HH
     have HG := Lib.hid (And.intro eg eq)
     clear HA hx ex eg eq
     cases q with
     | true =>
      go_wp2
      obtain ⟨W3, hW3⟩ : ∃ y, (wr.alloc (.cells #[.int .i64 x.op, .string (bs x.s), .int .i64 x.n, .slice Ax x.l.length cx, .int .i64 x.line] 24)) = y := ⟨_, rfl⟩
      obtain ⟨hb3, f0, f3, y0⟩ : Below wr.heap.size wr W3 ∧ W3.cell? ⟨w.heap.size + 1, 0, none⟩ = some (.int .i64 op) ∧ W3.cell? ⟨w.heap.size + 1, 3, none⟩ = some (.slice (some ⟨ga, fa, none⟩) len cap) ∧ W3.cell? ⟨wr.heap.size, 0, none⟩ = some (.int .i64 x.op) := by
       subst hW3
       have hlt : w.heap.size + 1 < wr.heap.size := by have := hB.size; simp at hs1; omega
       exact ⟨(Below.refl _ wr).alloc (Nat.le_refl _) _, (World.cell?_alloc_lt wr _ ⟨w.heap.size + 1, 0, none⟩ hlt).trans e0, (World.cell?_alloc_lt wr _ ⟨w.heap.size + 1, 3, none⟩ hlt).trans e3, by go_simp⟩
      rw [hW3]
      clear hW3
      go_quiet (first | (go_at_call 125; exact Calls.quiet_of_same ((HW.out _).mono fun e w' h => ⟨h.1, h.2.symm⟩)) | (go_at_call 54; exact Calls.quiet_of_same ((HH.out _).mono fun e w' h => ⟨h.1, h.2.symm⟩)))
      go_wp2
      go_roundw
      case rel => exact ⟨k + 1, by omega, by go_num, fun j y hj hy => by
       by_cases hjk : j < k
       ·exact HP.out j y hjk hy
       ·obtain rfl : j = k := by omega
        rw [EX.out] at hy
        cases hy
        rw [HG.out.1]
        exact HG.out.2, hB.trans ((hb3.trans ((Drewn.below ⟨_, rfl⟩ : Below W3.heap.size W3 (W3.drewN nq)).mono hb3.size)).mono hB.size)⟩
      case measure => simp [intOf]; omega
     | false =>
      go_wp2
      obtain ⟨W3, hW3⟩ : ∃ y, (wr.alloc (.cells #[.int .i64 x.op, .string (bs x.s), .int .i64 x.n, .slice Ax x.l.length cx, .int .i64 x.line] 24)) = y := ⟨_, rfl⟩
      obtain ⟨hb3, f0, f3, y0⟩ : Below wr.heap.size wr W3 ∧ W3.cell? ⟨w.heap.size + 1, 0, none⟩ = some (.int .i64 op) ∧ W3.cell? ⟨w.heap.size + 1, 3, none⟩ = some (.slice (some ⟨ga, fa, none⟩) len cap) ∧ W3.cell? ⟨wr.heap.size, 0, none⟩ = some (.int .i64 x.op) := by
       subst hW3
       have hlt : w.heap.size + 1 < wr.heap.size := by have := hB.size; simp at hs1; omega
       exact ⟨(Below.refl _ wr).alloc (Nat.le_refl _) _, (World.cell?_alloc_lt wr _ ⟨w.heap.size + 1, 0, none⟩ hlt).trans e0, (World.cell?_alloc_lt wr _ ⟨w.heap.size + 1, 3, none⟩ hlt).trans e3, by go_simp⟩
      rw [hW3]
      clear hW3
      go_quiet (first | (go_at_call 125; exact Calls.quiet_of_same ((HW.out _).mono fun e w' h => ⟨h.1, h.2.symm⟩)) | (go_at_call 54; exact Calls.quiet_of_same ((HH.out _).mono fun e w' h => ⟨h.1, h.2.symm⟩)))
      go_wp2
      go_ret
      exact ⟨ret_b (by
       rw [HR.out]
       cases hh : partsB op len 0 l with
       | false => rfl
       | true =>
        have := (partsB_get l 0).1 hh k x EX.out
        rw [Int.zero_add, HG.out.1, HG.out.2] at this
        cases this), hbr.trans ((hb3.trans ((Drewn.below ⟨_, rfl⟩ : Below W3.heap.size W3 (W3.drewN nq)).mono hb3.size)).mono hbr.size)⟩
    ·obtain rfl : k = len := by omega
     go_wp2
     go_ret
     exact ⟨ret_b (by
      rw [HR.out]
      symm
      refine (partsB_get l 0).2 fun j x hx => ?_
      rw [Int.zero_add]
      exact HP.out j x (by have := (List.getElem?_eq_some_iff.1 hx).1; have := HL.out; omega) hx), hbr⟩
 exact main al rfl
end
section
open Go.RowKit Go.Proofs Go.Shelf
attribute [local go_sem] Oper.semAt_some
theorem ItKeeps.below {mine : World → Nat → Prop} {base n : Nat} {A B : World} (h : ItKeeps mine base A B) (hb : n ≤ base) (hA : n ≤ A.heap.size) : Below n A B :=
 ⟨h.os, h.tape, h.output, h.size, fun k hk => h.keep k (by omega) (.inl (by omega))⟩
theorem boxed_it {mine : World → Nat → Prop} {base b : Nat} {A B : World} {t : TypeId} {v : Value} (h : Boxed A b t v) (hk : ItKeeps mine base A B) (hb : b < base ∨ mine A b) : Boxed B b t v :=
 (hk.keep b h.lt hb).trans h
def goodL (p : Lo × Nat) : Bool := goodB (p.1.tree, p.2)
theorem all_good (x : Lo) : (x.levels 1).all goodL = soundT x.tree := by
 unfold soundT
 rw [← lo_levels_tree, List.all_map]
 rfl
structure SoundI (w : World) (K R b : Nat) (x : Lo) (W : World) : Prop where
 known : Boxed W K 144 (.map (some b))
 map : SM W b shapesL.reverse
 below : Below w.heap.size w W
 right : ∃ q, Boxed W R 4 (.bool q)
theorem SoundI.it {w W W' : World} {K R b base : Nat} {x : Lo} (h : SoundI w K R b x W) (hk : ItKeeps (fun _ k => k = R) base W W') (h1 : K < base) (h2 : b < base) (h3 : R < base) (h4 : w.heap.size ≤ base) : SoundI w K R b x W' :=
 ⟨boxed_it h.known hk (.inl h1), h.map.same (hk.keep b h.map.lt (.inl h2)), h.below.trans (hk.below h4 h.below.size), by
  obtain ⟨q, hq⟩ := h.right
  exact ⟨q, boxed_it hq hk (.inl h3)⟩⟩
theorem shV_none : shV ((none : Option Sh).getD (0, 0, 0, 0)) = .agg #[.int .i64 0, .int .i64 0, .int .i64 0, .int .i64 0] := rfl
theorem shV_some (k num lo hi : Int) : shV ((some (k, num, lo, hi)).getD (0, 0, 0, 0)) = .agg #[.int .i64 k, .int .i64 num, .int .i64 lo, .int .i64 hi] := rfl
theorem sound_in (n : Nat) (hn : 3 ≤ n) (x : Lo) (w : World) (hx : LoAt w (fun k => k < w.heap.size) x) (hsz : x.size ≤ 1000000) :
  CallsIn Fence.wide n Tryz.prog 55 #[x.val] w fun e W' => e = .returned (.bool (soundT x.tree)) ∧ Below w.heap.size w W' := by
 have h1 : 1 ≤ n := by omega
 have hvs : ∃ A c, x.v = .slice A x.l.length c := by
  rw [LoAt_iff] at hx
  obtain ⟨_, A, c, e, _⟩ := hx
  exact ⟨A, c, e⟩
 obtain ⟨Av, cv, hvs⟩ := hvs
 have HX := Lib.hid hx
 have HS := Lib.hid (fun w => shapes_any w)
 have HV := fun n w => levels_in n x w
 unfold Lo.val at HV ⊢
 rw [hvs] at HV ⊢
 have HV := Lib.hid HV
 have Hvs := Lib.hid hvs
 clear hx hvs
 refine callsIn_of_wp_marks Tryz.func55 rfl trivial ?_ rfl
 simp only [Tryz.ntmps55, List.size_toArray, List.length_cons, List.length_nil, Nat.reduceAdd, Nat.reduceSub, Array.replicate_succ, Array.replicate_zero, List.push_toArray, List.append_toArray, List.nil_append, List.cons_append]
 gi_wp2_with fail
 refine wpIn_wide.2 (wp_scope_straight ((wpIn_wide (n := n)).1 ?_))
 gi_wp2_with fail
 refine ⟨trivial, ?_⟩
 gi_at_call 97
 refine (callsIn_wide.2 (HS.out _)).mono ?_
 rintro e w1 ⟨b, rfl, hSM, hbw, hB1⟩
 have hblk := (hB1.block w.heap.size (by simp)).trans (heap_alloc_new w (.cells #[.int .i64 x.op, .string (bs x.s), .int .i64 x.n, .slice Av x.l.length cv, .int .i64 x.line] 24))
 have p0 : w1.cell? ⟨w.heap.size, 0, none⟩ = some (.int .i64 x.op) := cell_of_row _ _ 0 _ _ _ hblk
 have p1 : w1.cell? ⟨w.heap.size, 1, none⟩ = some (.string (bs x.s)) := cell_of_row _ _ 1 _ _ _ hblk
 have p2 : w1.cell? ⟨w.heap.size, 2, none⟩ = some (.int .i64 x.n) := cell_of_row _ _ 2 _ _ _ hblk
 have p3 : w1.cell? ⟨w.heap.size, 3, none⟩ = some (.slice Av x.l.length cv) := cell_of_row _ _ 3 _ _ _ hblk
 have p4 : w1.cell? ⟨w.heap.size, 4, none⟩ = some (.int .i64 x.line) := cell_of_row _ _ 4 _ _ _ hblk
 have hz1 := hB1.size
 rw [World.size_alloc] at hz1 hbw
 have q1 : w.heap.size < w1.heap.size := by omega
 have q2 : w.heap.size < w1.heap.size + 1 := by omega
 clear hblk
 gi_wp2
 refine wpIn_label ?_
 gi_wp2_with (refine ⟨trivial, ?_⟩; gi_at_call 98; refine (HV.out (n - 1) _).mono ?_; rintro e w' ⟨rfl, rfl⟩)
 obtain ⟨K, eK⟩ : ∃ K, w1.heap.size = K := ⟨_, rfl⟩
 have bK := ((Boxed.new w1 144 (.map (some b))).alloc (.cells #[.bool true] 4)).alloc (.cells #[.int .i64 x.op, .string (bs x.s), .int .i64 x.n, .slice Av x.l.length cv, .int .i64 x.line] 24)
 have bR := (Boxed.new (w1.alloc (.cells #[.map (some b)] 144)) 4 (.bool true)).alloc (.cells #[.int .i64 x.op, .string (bs x.s), .int .i64 x.n, .slice Av x.l.length cv, .int .i64 x.line] 24)
 have bP := heap_alloc_new ((w1.alloc (.cells #[.map (some b)] 144)).alloc (.cells #[.bool true] 4)) (.cells #[.int .i64 x.op, .string (bs x.s), .int .i64 x.n, .slice Av x.l.length cv, .int .i64 x.line] 24)
 have hbl : Below w1.heap.size w1 (((w1.alloc (.cells #[.map (some b)] 144)).alloc (.cells #[.bool true] 4)).alloc (.cells #[.int .i64 x.op, .string (bs x.s), .int .i64 x.n, .slice Av x.l.length cv, .int .i64 x.line] 24)) :=
  (((Below.refl _ w1).alloc (Nat.le_refl _) _).alloc (by simp) _).alloc (by simp; omega) _
 have hsz0 : (((w1.alloc (.cells #[.map (some b)] 144)).alloc (.cells #[.bool true] 4)).alloc (.cells #[.int .i64 x.op, .string (bs x.s), .int .i64 x.n, .slice Av x.l.length cv, .int .i64 x.line] 24)).heap.size = w1.heap.size + 3 := by simp
 obtain ⟨W0, hW0⟩ : ∃ W0, (((w1.alloc (.cells #[.map (some b)] 144)).alloc (.cells #[.bool true] 4)).alloc (.cells #[.int .i64 x.op, .string (bs x.s), .int .i64 x.n, .slice Av x.l.length cv, .int .i64 x.line] 24)) = W0 := ⟨_, rfl⟩
 simp only [World.size_alloc] at bK bR bP
 rw [hW0] at bK bR bP hbl hsz0 ⊢
 clear hW0
 rw [eK] at bK bR bP hbl hsz0 hz1 q1 q2 ⊢
 have hbk : b < K := by have := hSM.lt; omega
 have hBw : Below w.heap.size w W0 := (((Below.refl _ w).alloc (Nat.le_refl _) _).trans (hB1.mono (by simp))).trans (hbl.mono (by omega))
 have hSM0 : SM W0 b shapesL.reverse := hSM.same (hbl.block b (by omega))
 have hbase : W0.heap.size = K + 3 := by omega
 have hxs := Hvs.out
 clear p0 p1 p2 p3 p4 hB1 hbl hSM
 refine wpIn_rangeRows (mine := fun _ k => k = K + 1) rfl h1 (gf := 123) (lb := #[.pointer (some ⟨K + 1 + 1, 0, none⟩)]) rfl trivial (enters_of Tryz.func123 (by kernel_rfl) rfl)
  (encs := fun y : Lo × Nat => #[y.1.val, .int .i64 y.2]) (xs := x.levels 1) (w0 := W0)
  (levels_seq (n - 1) (by omega) (K + 1 + 1) w.heap.size x (fun _ k => k = K + 1) W0 hsz (fun _ k hk => by omega) (by rw [hxs]; exact bP) (by omega) (LoAt.keep x HX.out (fun _ h => h) (fun p hp => hBw.cell hp))) (Below.refl _ _) (fun _ => rfl)
  (fun pre W => (SoundI w K (K + 1) b x W ∧ Boxed W (K + 1) 4 (.bool true)) ∧ pre.all goodL = true)
  (fun c pre W => (SoundI w K (K + 1) b x W ∧ Boxed W (K + 1) 4 (.bool false)) ∧ (c = .exit 0 ∧ pre.all goodL = false))
  (fun pre A B h g => ⟨⟨h.1.1.it g (by omega) (by omega) (by omega) (by omega), boxed_it h.1.2 g (.inl (by omega))⟩, h.2⟩)
  (fun c pre A B h g => ⟨⟨h.1.1.it g (by omega) (by omega) (by omega) (by omega), boxed_it h.1.2 g (.inl (by omega))⟩, h.2⟩)
  (fun pre A k h hk => by subst hk; exact ⟨_, h.1.2, rfl⟩) (fun c pre A k h hk => by subst hk; exact ⟨_, h.1.2, rfl⟩) (fun _ _ _ _ h => h)
  ⟨⟨⟨bK, hSM0, hBw, _, bR⟩, bR⟩, rfl⟩
  (fun y a' W => ∃ Bx, K + 1 < Bx ∧ w.heap.size ≤ Bx ∧ W.heap[Bx]? = some (.cells #[.int .i64 y.1.op, .string (bs y.1.s), .int .i64 y.1.n, y.1.v, .int .i64 y.1.line] 24 (0, 0)) ∧ a' = { tmps := (.agg #[.int .i64 x.op, .string (bs x.s), .int .i64 x.n, .slice Av x.l.length cv, .int .i64 x.line] :: .pointer (some ⟨w.heap.size, 0, none⟩) :: .bool false :: .pointer (some ⟨K, 0, none⟩) :: .pointer (some ⟨K + 1, 0, none⟩) :: .pointer (some ⟨Bx, 0, none⟩) :: .int .i64 y.2 :: undef :: undef :: .map (some b) :: .agg #[.int .i64 x.op, .string (bs x.s), .int .i64 x.n, .slice Av x.l.length cv, .int .i64 x.line] :: .func (.func 123) #[] #[.pointer (some ⟨K + 1 + 1, 0, none⟩)] :: y.1.val :: .int .i64 y.2 :: undef :: undef :: undef :: undef :: undef :: undef :: undef :: undef :: undef :: undef :: undef :: undef :: undef :: undef :: undef :: undef :: undef :: []).toArray, defers := [] })
  (fun y a' A B h g => by
   obtain ⟨Bx, g1, g0, g2, g3⟩ := h
   exact ⟨Bx, g1, g0, g _ _ g2 rfl, g3⟩)
  ?assign ?body ?done ?stop
 case assign =>
  rintro l pre ⟨y, lev⟩ W K' ⟨⟨hI, hR⟩, hall⟩ hpre hK
  have hRl := hR.lt
  have hIs := hI.below.size
  obtain ⟨Ay, cy, hvy⟩ := (LoAt.part 1 x HX.out (y, lev) (pre_mem hpre)).slice
  unfold Lo.val
  simp only at hvy ⊢
  have HI := Lib.hid (And.intro hI hR)
  have HVy := Lib.hid hvy
  rw [hvy] at hK ⊢
  clear hI hR hpre hvy
  gi_wp2
  exact hK _ _ ((Below.refl _ W).alloc (Nat.le_refl _) _) ⟨W.heap.size, hRl, hIs, heap_alloc_new W _, by unfold Lo.val; rw [HVy.out]⟩
 case body =>
  rintro l pre ⟨y, lev⟩ a' W hl ⟨⟨hI, hR⟩, hall⟩ ⟨Bx, hBx, hBw2, hblk, rfl⟩ hpre
  simp only at hblk ⊢
  have hLy := LoAt.part 1 x HX.out (y, lev) (pre_mem hpre)
  obtain ⟨Ay, cy, hvy⟩ := hLy.slice
  simp only at hLy hvy
  have hfine := (LoAt_iff _ _ _).1 hLy
  have hLyW := LoAt.keep (W' := W) (S' := fun k => k < W.heap.size) y hLy (fun k hk => Nat.lt_of_lt_of_le hk hI.below.size) (fun p hp => hI.below.cell hp)
  rw [hvy] at hblk
  have c0 : W.cell? ⟨Bx, 0, none⟩ = some (.int .i64 y.op) := cell_of_row W Bx 0 _ _ _ hblk
  have c1 : W.cell? ⟨Bx, 1, none⟩ = some (.string (bs y.s)) := cell_of_row W Bx 1 _ _ _ hblk
  have c2 : W.cell? ⟨Bx, 2, none⟩ = some (.int .i64 y.n) := cell_of_row W Bx 2 _ _ _ hblk
  have c3 : W.cell? ⟨Bx, 3, none⟩ = some (.slice Ay y.l.length cy) := cell_of_row W Bx 3 _ _ _ hblk
  have c4 : W.cell? ⟨Bx, 4, none⟩ = some (.int .i64 y.line) := cell_of_row W Bx 4 _ _ _ hblk
  have cK := hI.known.cell
  have cR := hR.cell
  have fR := hR.frozen
  have lB := (Array.getElem?_eq_some_iff.1 hblk).1
  have lR := hR.lt
  have lK := hI.known.lt
  have hlook := hI.map.look y.op hfine.1.2.1
  have hg : goodL (y, lev) = ((match shapeOf y.op with | none => false | some s => fitsB s y.tree) && decide (lev ≤ 100)) := by
   show goodB (y.tree, lev) = _
   unfold goodB soundOne
   rw [show y.tree.op = y.op by rw [tree_eq]; rfl]
   rfl
  have hall2 : (pre ++ [(y, lev)]).all goodL = goodL (y, lev) := by rw [List.all_append, hall]; simp
  have hAt := fun (W' : World) (h : Below W.heap.size W W') => At.keep (W' := W') (n' := W'.heap.size) y.tree (LoAt.at_ y hLyW (fun _ h => h)) h.size (fun p hp => h.cell hp)
  have hval : y.val = .agg #[.int .i64 y.op, .string (bs y.s), .int .i64 y.n, .slice Ay y.l.length cy, .int .i64 y.line] := by unfold Lo.val; rw [hvy]
  rw [hval] at hAt ⊢
  have HI := Lib.hid hI
  have HRr := Lib.hid hR
  have HAt := Lib.hid hAt
  have HA2 := Lib.hid hall2
  clear hLy hfine hLyW hpre hall hall2 hAt hval hvy hI hR hblk
  have hset : ∀ (W' : World), Below W.heap.size W W' → Boxed (W'.setCell ⟨K + 1, 0, none⟩ (.bool false)) (K + 1) 4 (.bool false) ∧ RdKeeps (fun _ k => k = K + 1) W (W'.setCell ⟨K + 1, 0, none⟩ (.bool false)) ∧ SoundI w K (K + 1) b x (W'.setCell ⟨K + 1, 0, none⟩ (.bool false)) := by
   intro W' hb
   have hR' : Boxed W' (K + 1) 4 (.bool true) := (hb.block _ lR).trans HRr.out
   have hRs : Boxed (W'.setCell ⟨K + 1, 0, none⟩ (.bool false)) (K + 1) 4 (.bool false) := by simpa using hR'.set (.bool false)
   have ho : ∀ k, k ≠ K + 1 → (W'.setCell ⟨K + 1, 0, none⟩ (.bool false)).heap[k]? = W'.heap[k]? := fun k hk => heap_setCell_other W' ⟨K + 1, 0, none⟩ k _ hk
   have hz : (W'.setCell ⟨K + 1, 0, none⟩ (.bool false)).heap.size = W'.heap.size := by simp
   refine ⟨hRs, ⟨hb.os, hb.tape, hb.output, by rw [hz]; exact hb.size, fun k hk hm => (ho k hm).trans (hb.block k hk), fun k hk => .inl hk⟩, ?_⟩
   refine ⟨(ho K (by omega)).trans ((hb.block K lK).trans HI.out.known), HI.out.map.same ((ho b (by omega)).trans (hb.block b (by omega))), ?_, _, hRs⟩
   exact (HI.out.below.trans (hb.mono HI.out.below.size)).setCell (p := ⟨K + 1, 0, none⟩) (by simp; omega) _
  have HSet := Lib.hid hset
  clear hset
  cases hsh : shapeOf y.op with
  | none =>
   rw [hsh] at hlook hg
   rw [shV_none] at hlook
   have HG := Lib.hid (show goodL (y, lev) = false by rw [hg]; rfl)
   simp only [Option.isSome_none] at hlook
   clear hg hsh
   gi_wp2
   obtain ⟨s1, s2, s3⟩ := HSet.out W (Below.refl _ W)
   exact ⟨s2.trans (RdKeeps.of_below ((Below.refl _ _).alloc (Nat.le_refl _) _) (fun _ h => h)) (fun _ _ h => h), ⟨s3.it (base := K + 2) (.of_below ((Below.refl _ _).alloc (Nat.le_refl _) _)) (by omega) (by omega) (by omega) (by omega), s1.alloc _⟩, rfl, HA2.out.trans HG.out⟩
  | some sh =>
   obtain ⟨k, num, lo, hi⟩ := sh
   rw [hsh] at hlook hg
   rw [shV_some] at hlook
   simp only [Option.isSome_some] at hlook hg
   by_cases hlev : lev ≤ 100
   ·have HF := fun W' h => fits_any (k, num, lo, hi) y.tree _ W' (HAt.out W' h)
    have hg2 : goodL (y, lev) = fitsB (k, num, lo, hi) y.tree := by rw [hg]; simp [hlev]
    obtain ⟨q, eq⟩ : ∃ q, fitsB (k, num, lo, hi) y.tree = q := ⟨_, rfl⟩
    rw [eq] at hg2
    simp only [eq] at HF
    unfold shV at HF
    have HF := Lib.hid HF
    have HG := Lib.hid hg2
    have d : ¬ (100 : Int) < lev := by omega
    clear hg hsh hlev hg2 eq
    gi_wp2_with fail
    refine ⟨trivial, fun h => absurd h (by simp [Fence.wide]), ?_⟩
    gi_at_call 99
    refine (CallsIn.inRound l (callsIn_wide.2 (HF.out _ ((Below.refl _ W).alloc (Nat.le_refl _) _)))).mono ?_
    rintro e w2 ⟨rfl, hb2⟩
    have hb3 : Below W.heap.size W w2 := ((Below.refl _ W).alloc (Nat.le_refl _) _).trans (hb2.mono (by simp))
    have hR2 : Boxed w2 (K + 1) 4 (.bool true) := (hb3.block _ lR).trans HRr.out
    have cR2 := hR2.cell
    have fR2 := hR2.frozen
    clear hb2
    cases q with
    | true =>
     gi_wp2
     exact ⟨RdKeeps.of_below hb3 (fun _ h => h), ⟨HI.out.it (base := K + 2) (.of_below hb3) (by omega) (by omega) (by omega) (by omega), hR2⟩, HA2.out.trans HG.out⟩
    | false =>
     gi_wp2
     obtain ⟨s1, s2, s3⟩ := HSet.out w2 hb3
     exact ⟨s2, ⟨s3, s1⟩, rfl, HA2.out.trans HG.out⟩
   ·have HG := Lib.hid (show goodL (y, lev) = false by rw [hg]; simp [hlev])
    have d : (100 : Int) < lev := by omega
    clear hg hsh hlev
    gi_wp2
    obtain ⟨s1, s2, s3⟩ := HSet.out W (Below.refl _ W)
    exact ⟨s2.trans (RdKeeps.of_below ((Below.refl _ _).alloc (Nat.le_refl _) _) (fun _ h => h)) (fun _ _ h => h), ⟨s3.it (base := K + 2) (.of_below ((Below.refl _ _).alloc (Nat.le_refl _) _)) (by omega) (by omega) (by omega) (by omega), s1.alloc _⟩, rfl, HA2.out.trans HG.out⟩
 case done =>
  rintro D W hD ⟨⟨hI, hR⟩, hall⟩ hK
  have cR := hR.cell
  have HR := Lib.hid (show soundT x.tree = true by rw [← all_good]; exact hall)
  have HB := Lib.hid hI.below
  clear hall hI
  gi_wp2
  rw [Exit.noGoto_ret]
  refine ⟨by simp, .inl ⟨_, _, rfl, run_takeDeferred hK, ?_⟩⟩
  exact ⟨_, results_tmp rfl _ _ _, by rw [HR.out]; rfl, HB.out.trans (belowK_b (w := w) (Nat.le_refl _) W D _ _ (by omega) hK rfl rfl)⟩
 case stop =>
  rintro D c pre W hD hpre ⟨⟨hI, hR⟩, rfl, hall⟩ hK
  have cR := hR.cell
  have HR := Lib.hid (show soundT x.tree = false by
   rw [← all_good]
   obtain ⟨r, hr⟩ := hpre
   rw [← hr, List.all_append, hall]
   rfl)
  have HB := Lib.hid hI.below
  clear hall hI
  gi_wp2
  rw [Exit.noGoto_ret]
  refine ⟨by simp, .inl ⟨_, _, rfl, run_takeDeferred hK, ?_⟩⟩
  exact ⟨_, results_tmp rfl _ _ _, by rw [HR.out]; rfl, HB.out.trans (belowK_b (w := w) (Nat.le_refl _) W D _ _ (by omega) hK rfl rfl)⟩
theorem sound_any (t : Tr) (v : Value) (w : World) (ht : At w w.heap.size t v) (hsz : t.size ≤ 1000000) :
  Calls Tryz.prog 55 #[v] w fun e w' => e = .returned (.bool (soundT t)) ∧ Below w.heap.size w w' := by
 obtain ⟨x, rfl, rfl, hx⟩ := Lo.of_at t ht
 rw [lo_size_tree] at hsz
 exact callsIn_wide.1 (sound_in 3 (Nat.le_refl _) x w hx hsz)
theorem right_walk (t : Tr) (v : Value) (w : World) (ht : At w w.heap.size t v) (hsz : t.size ≤ 1000000) :
  Calls Tryz.prog 36 #[v] w fun e w' => e = .returned (.bool (hasB 2 t.op && soundT t)) ∧ Below w.heap.size w w' := by
 have ht' := ht
 rw [At_iff] at ht
 obtain ⟨u, rfl, ⟨A, cap, rfl, _⟩, -⟩ := ht
 have hcall : ∀ o, Calls Tryz.prog 55 #[nodeV t (.slice A t.l.length cap)] (w.alloc o) fun e w' => e = .returned (.bool (soundT t)) ∧ Below (w.alloc o).heap.size (w.alloc o) w' :=
  fun o => sound_any t _ _ (At.keep (n' := (w.alloc o).heap.size) t ht' (by simp) fun p hp => World.cell?_alloc_lt w o p hp) hsz
 have HH := Lib.hid (fun w => has_any 2 t.op w)
 obtain ⟨q, eq⟩ : ∃ q, hasB 2 t.op = q := ⟨_, rfl⟩
 obtain ⟨r, er⟩ : ∃ r, soundT t = r := ⟨_, rfl⟩
 rw [eq] at HH ⊢
 rw [er] at hcall ⊢
 unfold nodeV at hcall ⊢
 have HC := Lib.hid hcall
 clear ht' hcall eq er
 cases q with
 | true =>
  go_enter Tryz.func36, Tryz.ntmps36
  go_wp2_with (first | (go_at_call 54; refine (HH.out _).mono ?_; rintro e w' ⟨rfl, rfl⟩) | (go_at_call 55; refine (HC.out _).mono ?_; rintro e w' ⟨rfl, hb⟩))
  go_ret
  exact ⟨by simp, ((Below.refl _ w).alloc (Nat.le_refl _) _).trans (hb.mono (by simp))⟩
 | false =>
  go_enter Tryz.func36, Tryz.ntmps36
  go_wp2_with (first | (go_at_call 54; refine (HH.out _).mono ?_; rintro e w' ⟨rfl, rfl⟩))
  go_ret
  exact ⟨by simp, ((Below.refl _ w).alloc (Nat.le_refl _) _)⟩
theorem right_any (t : Tr) (v : Value) (w : World) (ht : At w w.heap.size t v) (hsz : t.size ≤ 1000000) :
  Calls Tryz.prog 36 #[v] w fun e w' => e = .returned (.bool (rightP t)) ∧ Below w.heap.size w w' := right_walk t v w ht hsz
end
end Go.Proofs.YtikbfoichhkeaaaGreat
