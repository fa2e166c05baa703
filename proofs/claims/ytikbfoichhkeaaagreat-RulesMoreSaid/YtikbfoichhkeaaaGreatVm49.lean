/- The document's tokens of a text. -/
import Derived.Test.YtikbfoichhkeaaaGreatVm45
import Derived.Test.YtikbfoichhkeaaaGreatVm48
set_option linter.unusedSimpArgs false
set_option linter.unusedVariables false
set_option maxRecDepth 100000
set_option maxHeartbeats 40000000
namespace Go.Proofs.YtikbfoichhkeaaaGreat
section
open Go.RowKit Go.Proofs
def tokCs (t : Tok) : List Value := [.int .i64 t.kind, .string (bs t.s), .int .i64 t.n, .int .i64 t.line, .bool t.nl]
def LexPost (w : World) (R : List Tok × Int × Int) (e : Ending) (w' : World) : Prop :=
 ∃ v, e = .returned (.tuple #[v, .int .i64 R.2.1, .int .i64 R.2.2]) ∧ w'.ownsRow w.heap.size 112 5 v R.1.length (R.1.flatMap tokCs) ∧ Below w.heap.size w w'
theorem ext_dropT (s : ByteArray) (k : Nat) : (s.extract k s.size).data.toList = s.data.toList.drop k := by
 rw [← Lib.toList_data, Lib.extract_toList, List.take_of_length_le (by rw [List.length_drop, len_toList]; omega)]
theorem ext_sizeT (s : ByteArray) (k : Nat) : (s.extract k s.size).size = s.size - k := by
 rw [← len_toList, ext_dropT, List.length_drop, len_toList]
section
variable {f ln n k : Nat} {c : UInt8} {r : Bs} {nl : Bool} {out : List Tok} {t : Tok} {e : Int}
theorem lexM_nil : lexM (f + 1) [] ln nl out = (out, 0, 0) := by rw [lexM]
theorem lexM_none (h : blankM (c :: r) = none) : lexM (f + 1) (c :: r) ln nl out = ([], (ln : Int), 23) := by
 rw [lexM, h]
theorem lexM_blank (h : blankM (c :: r) = some (n + 1)) : lexM (f + 1) (c :: r) ln nl out = lexM f (r.drop n) (ln + ((c :: r).take (n + 1)).count 10) (nl || ((c :: r).take (n + 1)).contains 10) out := by
 rw [lexM, h]
theorem lexM_err (h : blankM (c :: r) = some 0) (h2 : oneM (c :: r) = .error e) : lexM (f + 1) (c :: r) ln nl out = ([], (ln : Int), e) := by
 rw [lexM, h]
 dsimp only
 rw [h2]
theorem lexM_tok (h : blankM (c :: r) = some 0) (h2 : oneM (c :: r) = .ok (t, k)) : lexM (f + 1) (c :: r) ln nl out = if out.length = 20000 then ([], (ln : Int), 20) else lexM f ((c :: r).drop k) ln false (out ++ [⟨t.kind, t.s, t.n, ln, nl⟩]) := by
 rw [lexM, h]
 dsimp only
 rw [h2]
end
theorem take_step {s : ByteArray} {p q : Nat} (hpq : p ≤ q) (hq : q < s.size) : (s.data.toList.drop p).take (q + 1 - p) = (s.data.toList.drop p).take (q - p) ++ [s[q]] := by
 rw [show q + 1 - p = (q - p) + 1 by omega, List.take_add_one, List.getElem?_drop, show p + (q - p) = q by omega, get_toList s q hq]
 rfl
theorem tok_info : (Tryz.prog.info? 112).map (fun i => (i.zero, i.size, i.bytes)) = some (some (.agg #[.int .i64 0, .string ⟨#[]⟩, .int .i64 0, .int .i64 0, .bool false]), 5, 48) := by kernel_rfl
theorem ownsRow_al {b n : Nat} {w : World} {T : TypeId} {v : Value} {xs : List Value} (h : w.ownsRow b T 5 v n xs) (o : Obj) : (w.alloc o).ownsRow b T 5 v n xs := by
 obtain ⟨h1, h2⟩ := h
 exact ⟨h1, h2.imp id fun ⟨g, cap, cur, q1, q2, q3, q4⟩ => ⟨g, cap, cur, q1, q2, (Below.heap_alloc w o g (heap_lt q3)).trans q3, q4⟩⟩
theorem tok_push {b Z : Nat} {w : World} {out : List Tok} {v : Value} {t : Tok} (h : w.ownsRow b 112 5 v out.length (out.flatMap tokCs)) (hZ : w.heap[Z]? = some (.cells #[.int .i64 t.kind, .string (bs t.s), .int .i64 t.n, .int .i64 t.line, .bool t.nl] 112 (0, 0))) (hn : out.length ≤ 30000) (hb : b ≤ w.heap.size) (ty : TypeId) :
  ∃ v' w', (Builtin.append_ #[69, 69] ty #[v, .slice (some ⟨Z, 0, none⟩) 1 1]).run Tryz.prog w = .ok v' w' ∧ (w'.ownsRow b 112 5 v' (out ++ [t]).length ((out ++ [t]).flatMap tokCs) ∧ Below b w w' ∧ ∃ A c, v' = .slice A (out.length + 1) c) := by
 obtain ⟨i0, j0, j1, j2, j3⟩ := info_parts tok_info
 obtain ⟨v', w', r1, r2, r3, -, r5⟩ := run_append_own_at (P := Tryz.prog) w b 69 ty 112 i0 _ 5 48 Tryz.underlying69 j0 j1 j2 j3 rfl (by decide) v out.length _ h ⟨Z, 0, none⟩ 1 1 (tokCs t) rfl (fun j u hj => by
  rw [add_mid, cell_of_row _ _ _ _ _ _ hZ]
  simpa [tokCs] using hj) (by simp [tokCs, Value.oneCell']) (by unfold maxLen; omega) (by omega) hb
 have hlen : (out ++ [t]).length = out.length + 1 := by simp
 refine ⟨v', w', r1, ?_, ⟨r3.os, r3.tape, r3.output, r3.size, fun k hk => r3.block k (by omega) (fun e => ?_)⟩, ?_⟩
 ·rw [hlen, List.flatMap_append]
  simpa using r2
 ·have := (own_lt h e.symm).1
  omega
 ·rcases r2.2 with ⟨-, h0⟩ | ⟨g, cap, cur, e, -⟩
  ·omega
  ·exact ⟨_, _, e⟩
theorem lex_any (s : ByteArray) (w : World) (hs : s.size ≤ 65536) :
  Calls Tryz.prog 53 #[.string s] w (LexPost w (lexM (s.size + 1) s.data.toList 1 false [])) := by
 obtain ⟨R, hR⟩ : ∃ R, lexM (s.size + 1) s.data.toList 1 false [] = R := ⟨_, rfl⟩
 have HR0 := Lib.hid hR
 rw [hR]
 have f1 : ¬ (65536 : Int) < s.size := by omega
 clear hR
 go_enter Tryz.func53, Tryz.ntmps53
 go_wp2
 go_loopw [5, 6, 7, 8] (fun vo vl vn va wr => ∃ (p ln : Nat) (nl : Bool) (out : List Tok) (f : Nat), va = .int .i64 p ∧ vl = .int .i64 ln ∧ vn = .bool nl ∧ p ≤ s.size ∧ ln ≤ p + 1 ∧ out.length ≤ 20000 ∧ RowKit.Hid (lexM f (s.data.toList.drop p) ln nl out = R ∧ s.size - p < f ∧ wr.ownsRow w.heap.size 112 5 vo out.length (out.flatMap tokCs) ∧ Below w.heap.size w wr)) (fun _ _ _ va _ => s.size - (intOf va).toNat)
 case atStart => exact ⟨0, 1, false, [], s.size + 1, rfl, rfl, rfl, Nat.zero_le _, by omega, by simp, Lib.hid ⟨HR0.out, by omega, World.ownsRow_nil _ _ _ _, Below.refl _ _⟩⟩
 case round =>
  obtain ⟨p, ln, nl, out, f, rfl, rfl, rfl, hp, hln, hol, HH⟩ := hrel
  obtain ⟨W0, hW0⟩ : ∃ x, x = wr := ⟨_, rfl⟩
  subst hW0
  obtain ⟨A0, c0, rfl, hoc, hcm⟩ := row_slice (row_zero HH.out.2.2.1)
  cases f with
  | zero => exact absurd HH.out.2.1 (by omega)
  | succ f =>
  by_cases hlt : p < s.size
  ·have hlt' : (p : Int) < s.size := by omega
   have hle' : (p : Int) ≤ s.size := by omega
   have hdr := drop_toList s p hlt
   have hx : (s.extract p s.size).data.toList = s[p] :: s.data.toList.drop (p + 1) := by rw [ext_dropT, hdr]
   have hxs := ext_sizeT s p
   have HB := fun W => blank_any (s.extract p s.size) W (by omega) (by omega)
   rw [hx] at HB
   cases hb : blankM (s[p] :: s.data.toList.drop (p + 1)) with
   | none =>
    rw [blankV_no hb] at HB
    have HB := Lib.hid HB
    have HF := Lib.hid (show R = ([], (ln : Int), 23) by rw [← HH.out.1, hdr, lexM_none hb])
    clear hdr hx hb
    go_wp2_with (go_at_call 95; refine (HB.out _).mono ?_; rintro e w' ⟨rfl, rfl⟩)
    exact bodyPost_ret (results_tmp3 rfl _ _ _) rfl (by rw [HF.out]; exact ⟨_, rfl, World.ownsRow_nil _ _ _ _, HH.out.2.2.2⟩)
   | some n0 =>
    have hbl := blank_len hb (by simp)
    have hl2 : (s[p] :: s.data.toList.drop (p + 1)).length = s.size - p := by rw [← hdr, List.length_drop, len_toList]
    rw [hl2] at hbl
    rw [blankV_some hb] at HB
    have HB := Lib.hid HB
    cases n0 with
    | succ n =>
     have HF := Lib.hid (show lexM f (s.data.toList.drop (p + (n + 1))) (ln + ((s.data.toList.drop p).take (n + 1)).count 10) (nl || ((s.data.toList.drop p).take (n + 1)).contains 10) out = R by
      rw [← HH.out.1, hdr, lexM_blank hb, List.drop_drop]
      congr 2
      omega)
     have n1 : ¬ ((n + 1 : Nat) : Int) < 0 := by omega
     have n2 : (0 : Int) < ((n + 1 : Nat) : Int) := by omega
     have hw1 : IntKind.i64.wrap ((p : Int) + ((n + 1 : Nat) : Int)) = (p : Int) + ((n + 1 : Nat) : Int) := IntWalk.i64_in _ (by omega)
     obtain ⟨N, hN⟩ : ∃ N, n + 1 = N := ⟨_, rfl⟩
     rw [hN] at HF n1 n2 hw1 HB hbl
     clear hdr hx hb hl2 hN
     go_wp2_with (go_at_call 95; refine (HB.out _).mono ?_; rintro e w' ⟨rfl, rfl⟩)
     go_loopw [6, 7, 10] (fun vl vn vi wr => ∃ q : Nat, p ≤ q ∧ q ≤ p + N ∧ vi = .int .i64 q ∧ vl = .int .i64 ((ln + ((s.data.toList.drop p).take (q - p)).count 10 : Nat) : Int) ∧ vn = .bool (nl || ((s.data.toList.drop p).take (q - p)).contains 10) ∧ RowKit.Hid (wr = W0)) (fun _ _ vi _ => p + N - (intOf vi).toNat)
     case atStart => exact ⟨p, Nat.le_refl _, by omega, rfl, by simp, by simp, Lib.hid rfl⟩
     case round =>
      obtain ⟨q, hq1, hq2, rfl, rfl, rfl, HW⟩ := hrel
      have hWr := HW.out
      obtain ⟨W1, hW1⟩ : ∃ x, x = wr := ⟨_, rfl⟩
      subst hW1
      rw [hWr]
      clear HW hWr
      obtain ⟨lq, hlq⟩ : ∃ x, ln + ((s.data.toList.drop p).take (q - p)).count 10 = x := ⟨_, rfl⟩
      obtain ⟨bq, hbq⟩ : ∃ x, (nl || ((s.data.toList.drop p).take (q - p)).contains 10) = x := ⟨_, rfl⟩
      have hcount : lq ≤ ln + (q - p) := by
       rw [← hlq]
       have := List.count_le_length (a := (10 : UInt8)) (l := (s.data.toList.drop p).take (q - p))
       rw [List.length_take] at this
       omega
      have HLQ := Lib.hid (And.intro hlq hbq)
      rw [hlq, hbq]
      clear hlq hbq
      have hwi : IntKind.i64.wrap ((q : Int) + 1) = (q : Int) + 1 := IntWalk.i64_in _ (by omega)
      have hwl : IntKind.i64.wrap ((lq : Int) + 1) = (lq : Int) + 1 := IntWalk.i64_in _ (by omega)
      by_cases hql : q < p + N
      ·have hqs : q < s.size := by omega
       have hqs' : (q : Int) < s.size := by omega
       have hql' : (q : Int) < (p : Int) + (N : Int) := by omega
       have HT := Lib.hid (take_step hq1 hqs)
       by_cases hc : s[q].toNat = 10
       ·have hc' : (s[q].toNat : Int) = 10 := by omega
        have HC := Lib.hid (show s[q] = 10 from u8_lit (by decide) hc)
        clear hc
        go_wp2
        go_roundw
        case rel => exact ⟨q + 1, by omega, by omega, by go_num, by
         rw [HT.out, List.count_append, HC.out, ← Nat.add_assoc, HLQ.out.1]
         rfl, by
         rw [HT.out, HC.out]
         simp, Lib.hid trivial⟩
        case measure => simp [intOf]; omega
       ·have hc' : ((s[q].toNat : Int) == 10) = false := by rw [beq_eq_false_iff_ne]; omega
        have HC := Lib.hid (show s[q] ≠ 10 from ne_lit (k := 10) (by decide) hc)
        clear hc
        go_wp2
        go_roundw
        case rel => exact ⟨q + 1, by omega, by omega, by go_num, by
         rw [HT.out, List.count_append, List.count_singleton, if_neg (by simpa using HC.out), Nat.add_zero, HLQ.out.1], by
         rw [HT.out, ← HLQ.out.2]
         simp [HC.out, Ne.symm HC.out], Lib.hid trivial⟩
        case measure => simp [intOf]; omega
      ·obtain rfl : q = p + N := by omega
       have hql' : ¬ ((p + N : Nat) : Int) < (p : Int) + (N : Int) := by omega
       have hpn : p + N - p = N := by omega
       rw [hpn] at HLQ
       go_wp2
       go_roundw
       case rel => exact ⟨p + N, lq, bq, out, f, by go_num, rfl, rfl, by omega, by omega, hol, Lib.hid ⟨by rw [← HLQ.out.1, ← HLQ.out.2]; exact HF.out, by have := HH.out.2.1; omega, HH.out.2.2.1, HH.out.2.2.2⟩⟩
       case measure => simp [intOf]; omega
    | zero =>
     have HO := fun W => one_any (s.extract p s.size) W (by omega) (by omega)
     rw [hx] at HO
     have hw1 : IntKind.i64.wrap ((p : Int) + 0) = (p : Int) := by rw [Int.add_zero]; exact IntWalk.i64_in _ (by omega)
     have hw2 : IntKind.i64.wrap (p : Int) = (p : Int) := IntWalk.i64_in _ (by omega)
     cases ho : oneM (s[p] :: s.data.toList.drop (p + 1)) with
     | error er =>
      have hne := one_err_ne ho
      have HF := Lib.hid (show R = ([], (ln : Int), er) by rw [← HH.out.1, hdr, lexM_err hb ho])
      rw [oneT_err ho] at HO
      unfold tokV zeroTok at HO
      dsimp only at HO
      have HO := Lib.hid HO
      have hne' : (er != 0) = true := by simpa using hne
      clear hdr hx hb hl2 ho hne
      go_wp2_with (go_at_call 95; refine (HB.out _).mono ?_; rintro e w' ⟨rfl, rfl⟩)
      go_loopw [6, 7, 10] (fun vl vn vi wr => vi = .int .i64 p ∧ vl = .int .i64 ln ∧ vn = .bool nl ∧ RowKit.Hid (wr = W0)) (fun _ _ vi _ => 0)
      case atStart => exact ⟨rfl, rfl, rfl, Lib.hid rfl⟩
      case round =>
       obtain ⟨rfl, rfl, rfl, HW⟩ := hrel
       have hWr := HW.out
       obtain ⟨W1, hW1⟩ : ∃ x, x = wr := ⟨_, rfl⟩
       subst hW1
       rw [hWr]
       clear HW hWr
       go_wp2_with (go_at_call 96; refine (HO.out _).mono ?_; rintro e w2 ⟨rfl, hb2⟩; have HB2 := Lib.hid hb2; clear hb2)
       exact bodyPost_ret (results_tmp3 rfl _ _ _) rfl (by rw [HF.out]; exact ⟨_, rfl, World.ownsRow_nil _ _ _ _, (HH.out.2.2.2.trans (HB2.out.mono HH.out.2.2.2.size)).alloc (Nat.le_trans HH.out.2.2.2.size HB2.out.size) _⟩)
     | ok tk =>
      obtain ⟨⟨kd, ts, tn, tl, tb⟩, k⟩ := tk
      obtain ⟨hk1, hk2, -, -, -⟩ := one_len ho
      rw [hl2] at hk2
      have hRe := lexM_tok (f := f) (ln := ln) (nl := nl) (out := out) hb ho
      rw [oneT_ok ho] at HO
      unfold tokV at HO
      dsimp only at HO hRe
      have HO := Lib.hid HO
      have hw3 : IntKind.i64.wrap ((p : Int) + (k : Int)) = (p : Int) + (k : Int) := IntWalk.i64_in _ (by omega)
      rw [← hdr, HH.out.1, List.drop_drop] at hRe
      have hol' := hol
      by_cases hfull : out.length = 20000
      ·rw [if_pos hfull] at hRe
       have HF := Lib.hid hRe
       have hfl : ((out.length : Int) == 20000) = true := by rw [hfull]; rfl
       clear hdr hx hb hl2 ho hRe hfull
       go_wp2_with (go_at_call 95; refine (HB.out _).mono ?_; rintro e w' ⟨rfl, rfl⟩)
       go_loopw [6, 7, 10] (fun vl vn vi wr => vi = .int .i64 p ∧ vl = .int .i64 ln ∧ vn = .bool nl ∧ RowKit.Hid (wr = W0)) (fun _ _ vi _ => 0)
       case atStart => exact ⟨rfl, rfl, rfl, Lib.hid rfl⟩
       case round =>
        obtain ⟨rfl, rfl, rfl, HW⟩ := hrel
        have hWr := HW.out
        obtain ⟨W1, hW1⟩ : ∃ x, x = wr := ⟨_, rfl⟩
        subst hW1
        rw [hWr]
        clear HW hWr
        go_wp2_with (go_at_call 96; refine (HO.out _).mono ?_; rintro e w2 ⟨rfl, hb2⟩; have HB2 := Lib.hid hb2; clear hb2)
        exact bodyPost_ret (results_tmp3 rfl _ _ _) rfl (by rw [HF.out]; exact ⟨_, rfl, World.ownsRow_nil _ _ _ _, (HH.out.2.2.2.trans (HB2.out.mono HH.out.2.2.2.size)).alloc (Nat.le_trans HH.out.2.2.2.size HB2.out.size) _⟩)
      ·rw [if_neg hfull] at hRe
       have HF := Lib.hid hRe
       have hfl : ((out.length : Int) == 20000) = false := by rw [beq_eq_false_iff_ne]; omega
       clear hdr hx hb hl2 ho hRe
       go_wp2_with (go_at_call 95; refine (HB.out _).mono ?_; rintro e w' ⟨rfl, rfl⟩)
       go_loopw [6, 7, 10] (fun vl vn vi wr => vi = .int .i64 p ∧ vl = .int .i64 ln ∧ vn = .bool nl ∧ RowKit.Hid (wr = W0)) (fun _ _ vi _ => 0)
       case atStart => exact ⟨rfl, rfl, rfl, Lib.hid rfl⟩
       case round =>
        obtain ⟨rfl, rfl, rfl, HW⟩ := hrel
        have hWr := HW.out
        obtain ⟨W1, hW1⟩ : ∃ x, x = wr := ⟨_, rfl⟩
        subst hW1
        rw [hWr]
        clear HW hWr
        go_wp2_with fail
        go_at_call 96
        refine (HO.out _).mono ?_
        rintro e w2 ⟨rfl, hb2⟩
        have hz2 := hb2.size
        have hz0 := HH.out.2.2.2.size
        obtain ⟨w3, e3⟩ : ∃ W, w2.alloc (.cells #[.int .i64 kd, .string (bs ts), .int .i64 tn, .int .i64 tl, .bool tb] 112) = W := ⟨_, rfl⟩
        have b3 : w3.heap[w2.heap.size]? = some (.cells #[.int .i64 kd, .string (bs ts), .int .i64 tn, .int .i64 tl, .bool tb] 112 (0, 0)) := by rw [← e3]; exact heap_alloc_new _ _
        obtain ⟨w4, e4⟩ : ∃ W, w3.setCell ⟨w2.heap.size, 3, none⟩ (.int .i64 ln) = W := ⟨_, rfl⟩
        have b4 : w4.heap[w2.heap.size]? = some (.cells #[.int .i64 kd, .string (bs ts), .int .i64 tn, .int .i64 ln, .bool tb] 112 (0, 0)) := by rw [← e4]; exact blk_set b3 3 _
        obtain ⟨w5, e5⟩ : ∃ W, w4.setCell ⟨w2.heap.size, 4, none⟩ (.bool nl) = W := ⟨_, rfl⟩
        have b5 : w5.heap[w2.heap.size]? = some (.cells #[.int .i64 kd, .string (bs ts), .int .i64 tn, .int .i64 ln, .bool nl] 112 (0, 0)) := by rw [← e5]; exact blk_set b4 4 _
        have bl2 : Below w.heap.size w w2 := HH.out.2.2.2.trans (hb2.mono hz0)
        have bl3 : Below w2.heap.size w2 w3 := by rw [← e3]; exact (Below.refl _ w2).alloc (Nat.le_refl _) _
        have bl5 : Below w2.heap.size w2 w5 := by rw [← e5, ← e4]; exact (bl3.setCell (Nat.le_refl _) _).setCell (Nat.le_refl _) _
        have HB5 := Lib.hid (And.intro (bl2.trans (bl5.mono (by omega))) b5)
        have hz5 := bl5.size
        have hz3 := heap_lt b5
        have row5 : w5.ownsRow w.heap.size 112 5 (.slice A0 out.length c0) out.length (out.flatMap tokCs) := by
         obtain ⟨h1, h2⟩ := HH.out.2.2.1
         refine ⟨h1, h2.imp id fun ⟨g, cap, cur, q1, q2, q3, q4⟩ => ⟨g, cap, cur, q1, q2, ?_, q4⟩⟩
         have hg := heap_lt q3
         exact (bl5.block g (by omega)).trans ((hb2.block g hg).trans q3)
        have HP := Lib.hid (tok_push (t := ⟨kd, ts, tn, ln, nl⟩) (Z := w5.heap.size) (w := w5.alloc (.cells #[.int .i64 kd, .string (bs ts), .int .i64 tn, .int .i64 ln, .bool nl] 112)) (b := w.heap.size) (ownsRow_al row5 _) (heap_alloc_new _ _) (by omega) (by simp; omega) 69)
        have HBA := Lib.hid (show Below w.heap.size w (w5.alloc (.cells #[.int .i64 kd, .string (bs ts), .int .i64 tn, .int .i64 ln, .bool nl] 112)) from HB5.out.1.alloc (by omega) _)
        obtain ⟨⟨y0, y1, y2, y3, y4⟩, g0, g1, g2, g3, g4⟩ := box_facts b3
        obtain ⟨⟨x0, x1, x2, x3, x4⟩, p0, p1, p2, p3, p4⟩ := box_facts b4
        obtain ⟨⟨z0, z1, z2, z3, z4⟩, -⟩ := box_facts b5
        clear b3 b4 b5 bl2 bl3 bl5 row5 hb2
        go_wp2_with (at_builtin; refine wl_app rfl _ _ 69 rfl _ (.slice (some ⟨w5.heap.size, 0, none⟩) 1 1) rfl rfl _ HP.out ?_; rintro u w6 ⟨hrow, hbl6, A6, c6, rfl⟩; have H6 := Lib.hid (And.intro hrow hbl6); clear hrow hbl6)
        go_roundw
        case rel => exact ⟨p + k, ln, false, out ++ [⟨kd, ts, tn, ln, nl⟩], f, by go_num, rfl, rfl, by omega, by omega, by simp; omega, Lib.hid ⟨HF.out.symm, by have := HH.out.2.1; omega, H6.out.1, HBA.out.trans H6.out.2⟩⟩
        case measure => simp [intOf]; omega
  ·have HF := Lib.hid (show R = (out, 0, 0) by rw [← HH.out.1, List.drop_eq_nil_of_le (by rw [len_toList]; omega), lexM_nil])
   have hlt' : ¬ (p : Int) < s.size := by omega
   go_wp2
   exact bodyPost_ret (results_tmp3 rfl _ _ _) rfl (by rw [HF.out]; exact ⟨_, rfl, HH.out.2.2.1, HH.out.2.2.2⟩)
end
end Go.Proofs.YtikbfoichhkeaaaGreat
