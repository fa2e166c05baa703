/- The document's tokens: blank. The document's tokens: the first one. The document's tokens: escape. -/
import Derived.Deep.RegionLaw
import Derived.Test.YtikbfoichhkeaaaGreatVm22
import Derived.Test.YtikbfoichhkeaaaGreatVm42
set_option linter.unusedSimpArgs false
set_option linter.unusedVariables false
set_option maxRecDepth 100000
set_option maxHeartbeats 40000000
namespace Go.Proofs.YtikbfoichhkeaaaGreat
section
open Go.RowKit Go.Proofs
def blankV (l : Bs) : Int := match blankM l with
 | some n => n
 | none => -1
theorem u8_lit {c : UInt8} {k : Nat} (hk : k < 256) (h : c.toNat = k) : c = UInt8.ofNat k := by
 rw [← UInt8.toNat_inj, UInt8.toNat_ofNat', Nat.mod_eq_of_lt hk, h]
theorem list_one (s : ByteArray) (h0 : 0 < s.size) : ∃ r, s.data.toList = s[0] :: r := ⟨s.data.toList.drop 1, by have := drop_toList s 0 h0; rwa [List.drop_zero] at this⟩
theorem list_two (s : ByteArray) (h : 1 < s.size) : s.data.toList = s[0] :: s[1] :: s.data.toList.drop 2 := by
 have h1 := drop_toList s 0 (by omega)
 rw [List.drop_zero] at h1
 rw [drop_toList s 1 h] at h1
 exact h1
theorem blankV_white {c : UInt8} {r : Bs} (h : c.toNat = 32 ∨ c.toNat = 9 ∨ c.toNat = 13 ∨ c.toNat = 10) : blankV (c :: r) = 1 := by
 unfold blankV blankM
 rw [if_pos (by
  rcases h with h | h | h | h
  ·exact .inl (u8_lit (by decide) h)
  ·exact .inr (.inl (u8_lit (by decide) h))
  ·exact .inr (.inr (.inl (u8_lit (by decide) h)))
  ·exact .inr (.inr (.inr (u8_lit (by decide) h))))]
 rfl
theorem not_white {c : UInt8} {l : Bs} {α : Type} {x y : α} (h : ¬ (c.toNat = 32 ∨ c.toNat = 9 ∨ c.toNat = 13 ∨ c.toNat = 10)) : (if c = 32 ∨ c = 9 ∨ c = 13 ∨ c = 10 then x else y) = y :=
 if_neg fun e => h (by rcases e with rfl | rfl | rfl | rfl <;> simp)
theorem blankV_none1 {c : UInt8} (h : ¬ (c.toNat = 32 ∨ c.toNat = 9 ∨ c.toNat = 13 ∨ c.toNat = 10)) : blankV [c] = 0 := by
 unfold blankV blankM
 dsimp only [List.headD]
 rw [not_white (l := []) h]
 split
 ·rename_i n hm
  split at hm
  ·rename_i e
   simp at e
  ·rename_i e
   simp at e
  ·cases hm; rfl
 ·rename_i hm
  split at hm
  ·cases hm
  ·rename_i e
   simp at e
  ·cases hm
theorem blankV_none2 {c d : UInt8} {r : Bs} (h : ¬ (c.toNat = 32 ∨ c.toNat = 9 ∨ c.toNat = 13 ∨ c.toNat = 10)) (hn : ¬ (c.toNat = 47 ∧ (d.toNat = 47 ∨ d.toNat = 42))) : blankV (c :: d :: r) = 0 := by
 unfold blankV blankM
 dsimp only [List.headD]
 rw [not_white (l := []) h]
 split
 ·rename_i n hm
  split at hm
  ·rename_i e
   simp at e
   exact absurd ⟨by rw [e.1]; rfl, .inl (by rw [e.2.1]; rfl)⟩ hn
  ·rename_i e
   simp at e
   exact absurd ⟨by rw [e.1]; rfl, .inr (by rw [e.2.1]; rfl)⟩ hn
  ·cases hm; rfl
 ·rename_i hm
  split at hm
  ·cases hm
  ·rename_i e
   simp at e
   exact absurd ⟨by rw [e.1]; rfl, .inr (by rw [e.2.1]; rfl)⟩ hn
  ·cases hm
theorem blankV_line (r : Bs) : blankV (47 :: 47 :: r) = ((2 + runL noEndB r : Nat) : Int) := by
 unfold blankV blankM
 dsimp only [List.headD]
 rw [if_neg (by decide)]
 rfl
theorem blankV_star (r : Bs) : blankV (47 :: 42 :: r) = match closeM r 2 with
  | some n => (n : Int)
  | none => -1 := by
 unfold blankV blankM
 dsimp only [List.headD]
 rw [if_neg (by decide)]
 rfl
theorem close_yes (r : Bs) (i : Nat) : closeM (42 :: 47 :: r) i = some (i + 2) := by rw [closeM, if_pos ⟨rfl, rfl⟩]
theorem close_step {a b : UInt8} (r : Bs) (i : Nat) (h : ¬ (a.toNat = 42 ∧ b.toNat = 47)) : closeM (a :: b :: r) i = closeM (b :: r) (i + 1) := by
 rw [closeM, if_neg (fun e => h ⟨by rw [e.1]; rfl, by rw [e.2]; rfl⟩)]
theorem close_last (a : UInt8) (i : Nat) : closeM [a] i = none := by rw [closeM]
theorem close_nil (i : Nat) : closeM [] i = none := by rw [closeM]
theorem blank_any (s : ByteArray) (w : World) (h0 : 0 < s.size) (hs : s.size ≤ 100000) :
  Calls Tryz.prog 95 #[.string s] w fun e w' => e = .returned (.int .i64 (blankV s.data.toList)) ∧ w = w' := by
 have g0 : (0 : Int) < s.size := by omega
 by_cases hw : s[0].toNat = 32 ∨ s[0].toNat = 9 ∨ s[0].toNat = 13 ∨ s[0].toNat = 10
 ·have HV := Lib.hid (show blankV s.data.toList = 1 by
   obtain ⟨r, e⟩ := list_one s h0
   rw [e]; exact blankV_white hw)
  have hw' : (s[0].toNat : Int) = 32 ∨ (s[0].toNat : Int) = 9 ∨ (s[0].toNat : Int) = 13 ∨ (s[0].toNat : Int) = 10 := by omega
  clear hw
  rcases hw' with e | e | e | e
  all_goals
   go_enter Tryz.func95, Tryz.ntmps95
   go_wp2
   go_ret
   exact ⟨ret_i (by rw [HV.out]), rfl⟩
 have y1 : ((s[0].toNat : Int) == 32) = false := by rw [beq_eq_false_iff_ne]; omega
 have y2 : ((s[0].toNat : Int) == 9) = false := by rw [beq_eq_false_iff_ne]; omega
 have y3 : ((s[0].toNat : Int) == 13) = false := by rw [beq_eq_false_iff_ne]; omega
 have y4 : ((s[0].toNat : Int) == 10) = false := by rw [beq_eq_false_iff_ne]; omega
 by_cases h2 : s.size < 2
 ·have f2 : (s.size : Int) < 2 := by omega
  have HV := Lib.hid (show blankV s.data.toList = 0 by
   obtain ⟨r, e⟩ := list_one s h0
   have hr : r = [] := by
    have := congrArg List.length e
    rw [len_toList, List.length_cons] at this
    exact List.length_eq_zero_iff.1 (by omega)
   rw [e, hr]; exact blankV_none1 hw)
  clear hw h2
  go_enter Tryz.func95, Tryz.ntmps95
  go_wp2
  go_ret
  exact ⟨ret_i (by rw [HV.out]), rfl⟩
 have f2 : ¬ (s.size : Int) < 2 := by omega
 have hl := list_two s (by omega)
 by_cases hn : s[0].toNat = 47 ∧ (s[1].toNat = 47 ∨ s[1].toNat = 42)
 ·obtain ⟨hz, ho⟩ := hn
  have e0 : (s[0].toNat : Int) = 47 := by omega
  have c0 : s[0] = 47 := u8_lit (by decide) hz
  rcases ho with ho | ho
  ·have e1 : (s[1].toNat : Int) = 47 := by omega
   have c1 : s[1] = 47 := u8_lit (by decide) ho
   have HV := Lib.hid (show blankV s.data.toList = ((2 + runL noEndB (s.data.toList.drop 2) : Nat) : Int) by
    rw [hl, c0, c1]
    exact blankV_line _)
   clear hw hz ho c0 c1 hl y1 y2 y3 y4
   go_enter Tryz.func95, Tryz.ntmps95
   go_wp2
   go_loop [3] (fun i => ∃ k : Nat, 2 ≤ k ∧ k ≤ s.size ∧ i = .int .i64 k ∧ RowKit.Hid (∀ c ∈ (s.data.toList.drop 2).take (k - 2), noEndB c = true)) (fun i => s.size - (intOf i).toNat)
   case atStart => exact ⟨2, Nat.le_refl _, by omega, rfl, Lib.hid (by simp)⟩
   case round =>
    obtain ⟨k, hk2, hk, rfl, HA⟩ := hrel
    by_cases hlt : k < s.size
    ·have hnext : (s.data.toList.drop 2)[k - 2]? = some s[k] := by
      rw [List.getElem?_drop, show 2 + (k - 2) = k by omega]
      exact get_toList s k hlt
     by_cases hc : s[k].toNat = 10
     ·have hc' : (s[k].toNat : Int) = 10 := by omega
      have HS := Lib.hid (show (k : Int) = ((2 + runL noEndB (s.data.toList.drop 2) : Nat) : Int) by
       rw [runL_stop noEndB (k - 2) (s.data.toList.drop 2) HA.out (fun c h => by
        rw [List.head?_drop, hnext] at h
        cases h
        cases hb : noEndB s[k] with
        | false => rfl
        | true => exact absurd hc ((noEndB_iff _).1 hb)) (by rw [List.length_drop, len_toList]; omega)]
       omega)
      clear hc hnext
      go_wp2
      go_ret
      exact ⟨ret_i (by rw [HV.out]; exact HS.out), rfl⟩
     ·have hc' : ((s[k].toNat : Int) == 10) = false := by rw [beq_eq_false_iff_ne]; omega
      have HS := Lib.hid (show ∀ c ∈ (s.data.toList.drop 2).take (k + 1 - 2), noEndB c = true from fun c h => by
       rw [show k + 1 - 2 = (k - 2) + 1 by omega, List.take_add_one, hnext] at h
       rcases List.mem_append.1 h with h | h
       ·exact HA.out c h
       ·obtain rfl : c = s[k] := by simpa using h
        exact (noEndB_iff _).2 hc)
      have hw1 : IntKind.i64.wrap ((k : Int) + 1) = (k : Int) + 1 := IntWalk.i64_in _ (by omega)
      clear hc hnext
      go_wp2
      go_round
      case rel => exact ⟨k + 1, by omega, by omega, by go_num, HS⟩
      case measure => simp [intOf]; omega
    ·have HS := Lib.hid (show (s.size : Int) = ((2 + runL noEndB (s.data.toList.drop 2) : Nat) : Int) by
      rw [runL_all_such noEndB _ (fun c h => HA.out c (by rw [List.take_of_length_le (by rw [List.length_drop, len_toList]; omega)]; exact h)), List.length_drop, len_toList]
      omega)
     go_wp2
     go_ret
     exact ⟨ret_i (by rw [HV.out]; exact HS.out), rfl⟩
  ·have e1 : (s[1].toNat : Int) = 42 := by omega
   have c1 : s[1] = 42 := u8_lit (by decide) ho
   have HV := Lib.hid (show blankV s.data.toList = (match closeM (s.data.toList.drop 2) 2 with
     | some n => (n : Int)
     | none => -1) by
    rw [hl, c0, c1]
    exact blankV_star _)
   clear hw hz ho c0 c1 hl y1 y2 y3 y4
   go_enter Tryz.func95, Tryz.ntmps95
   go_wp2
   go_loop [3] (fun i => ∃ k : Nat, 2 ≤ k ∧ k ≤ s.size ∧ i = .int .i64 k ∧ RowKit.Hid (closeM (s.data.toList.drop 2) 2 = closeM (s.data.toList.drop k) k)) (fun i => s.size - (intOf i).toNat)
   case atStart => exact ⟨2, Nat.le_refl _, by omega, rfl, Lib.hid rfl⟩
   case round =>
    obtain ⟨k, hk2, hk, rfl, HA⟩ := hrel
    have hw1 : IntKind.i64.wrap ((k : Int) + 1) = (k : Int) + 1 := IntWalk.i64_in _ (by omega)
    have hw2 : IntKind.i64.wrap ((k : Int) + 2) = (k : Int) + 2 := IntWalk.i64_in _ (by omega)
    by_cases hlt : k + 1 < s.size
    ·have hd : s.data.toList.drop k = s[k] :: s[k + 1] :: s.data.toList.drop (k + 2) := by rw [drop_toList s k (by omega), drop_toList s (k + 1) hlt]
     have hlt1 : k < s.size := by omega
     have hlt' : (k : Int) + 1 < s.size := by omega
     by_cases hc : s[k].toNat = 42 ∧ s[k + 1].toNat = 47
     ·have hc1 : (s[k].toNat : Int) = 42 := by omega
      have hc2 : (s[k + 1].toNat : Int) = 47 := by omega
      have HS := Lib.hid (show closeM (s.data.toList.drop 2) 2 = some (k + 2) by
       rw [HA.out, hd, u8_lit (by decide) hc.1, u8_lit (by decide) hc.2]
       exact close_yes _ _)
      clear hc hd
      go_wp2
      go_ret
      exact ⟨ret_i (by rw [HV.out, HS.out]; rfl), rfl⟩
     ·have HS := Lib.hid (show closeM (s.data.toList.drop 2) 2 = closeM (s.data.toList.drop (k + 1)) (k + 1) by
       rw [HA.out, hd, close_step _ _ hc, ← drop_toList s (k + 1) hlt])
      by_cases hc1 : s[k].toNat = 42
      ·have hc1' : (s[k].toNat : Int) = 42 := by omega
       have hc2' : ((s[k + 1].toNat : Int) == 47) = false := by rw [beq_eq_false_iff_ne]; omega
       clear hc hd hc1
       go_wp2
       go_round
       case rel => exact ⟨k + 1, by omega, by omega, by go_num, HS⟩
       case measure => simp [intOf]; omega
      ·have hc1' : ((s[k].toNat : Int) == 42) = false := by rw [beq_eq_false_iff_ne]; omega
       clear hc hd hc1
       go_wp2
       go_round
       case rel => exact ⟨k + 1, by omega, by omega, by go_num, HS⟩
       case measure => simp [intOf]; omega
    ·by_cases hlt2 : k < s.size
     ·have hlt' : ¬ (k : Int) + 1 < s.size := by omega
      have HS := Lib.hid (show closeM (s.data.toList.drop 2) 2 = closeM (s.data.toList.drop (k + 1)) (k + 1) by
       have hn : s.data.toList.drop (k + 1) = [] := List.drop_eq_nil_of_le (by rw [len_toList]; omega)
       rw [HA.out, drop_toList s k hlt2, hn, close_last, close_nil])
      go_wp2
      go_round
      case rel => exact ⟨k + 1, by omega, by omega, by go_num, HS⟩
      case measure => simp [intOf]; omega
     ·have HS := Lib.hid (show closeM (s.data.toList.drop 2) 2 = none by
       rw [HA.out, List.drop_eq_nil_of_le (by rw [len_toList]; omega), close_nil])
      go_wp2
      go_ret
      exact ⟨ret_i (by rw [HV.out, HS.out]), rfl⟩
 ·have HV := Lib.hid (show blankV s.data.toList = 0 by rw [hl]; exact blankV_none2 hw hn)
  by_cases hz : s[0].toNat = 47
  ·have e0 : (s[0].toNat : Int) = 47 := by omega
   have u1 : ((s[1].toNat : Int) != 47) = true := by rw [bne_iff_ne]; omega
   have u2 : ((s[1].toNat : Int) != 42) = true := by rw [bne_iff_ne]; omega
   clear hw hl hn hz y1 y2 y3 y4
   go_enter Tryz.func95, Tryz.ntmps95
   go_wp2
   go_ret
   exact ⟨ret_i (by rw [HV.out]), rfl⟩
  ·have u0 : ((s[0].toNat : Int) != 47) = true := by rw [bne_iff_ne]; omega
   clear hw hl hn hz
   go_enter Tryz.func95, Tryz.ntmps95
   go_wp2
   go_ret
   exact ⟨ret_i (by rw [HV.out]), rfl⟩
end
section
open Go.RowKit Go.Proofs
def zeroTok : Tok := ⟨0, [], 0, 0, false⟩
def oneT (l : Bs) : Tok × Int × Int := match oneM l with
 | .ok (t, n) => (t, n, 0)
 | .error e => (zeroTok, 0, e)
def numAns (o : Option Nat) (m n : Nat) : Tok × Int × Int := match o with
 | none => (zeroTok, 0, 24)
 | some v => if m ≠ n then (zeroTok, 0, 24) else (⟨3, [], v, 0, false⟩, (n : Int), 0)
theorem ext_bs (s : ByteArray) (n : Nat) : s.extract 0 n = bs (s.data.toList.take n) := by
 rw [← ext_take, bs_of]
theorem tok_ret {w W : World} {fn : Func} {a : Act} {x y : Int} {v0 v1 v2 v3 v4 : Value} {R : Ending → World → Prop} (s1 s2 s3 : Nat) (hfn : fn.results = #[.cell s1 112, .tmp s2, .tmp s3]) (h1 : a.tmps.getD s1 undef = .pointer (some ⟨w.heap.size, 0, none⟩)) (h2 : a.tmps.getD s2 undef = .int .i64 x) (h3 : a.tmps.getD s3 undef = .int .i64 y) (hd : a.defers = [])
  (hx : W.heap[w.heap.size]? = some (.cells #[v0, v1, v2, v3, v4] 112 (0, 0))) (hR : R (.returned (.tuple #[.agg #[v0, v1, v2, v3, v4], .int .i64 x, .int .i64 y])) W) :
  bodyPost Tryz.prog fn R .ret a W := by
 obtain ⟨⟨y0, y1, y2, y3, y4⟩, -⟩ := box_facts hx
 refine bodyPost_ret (v := .tuple #[.agg #[v0, v1, v2, v3, v4], .int .i64 x, .int .i64 y]) ?_ hd hR
 have e1 : a.tmps[s1]?.getD undef = .pointer (some ⟨w.heap.size, 0, none⟩) := by rw [← Array.getD_eq_getD_getElem?]; exact h1
 have e2 : a.tmps[s2]?.getD undef = .int .i64 x := by rw [← Array.getD_eq_getD_getElem?]; exact h2
 have e3 : a.tmps[s3]?.getD undef = .int .i64 y := by rw [← Array.getD_eq_getD_getElem?]; exact h3
 simp [results, hfn, e1, e2, e3, go_sem, y0, y1, y2, y3, y4]
theorem tok_fin {w W1 : World} {fn : Func} {a : Act} {x y : Int} {v0 v1 v2 v3 v4 : Value} {t : Tok} (s1 s2 s3 : Nat) (hfn : fn.results = #[.cell s1 112, .tmp s2, .tmp s3]) (h1 : a.tmps.getD s1 undef = .pointer (some ⟨w.heap.size, 0, none⟩)) (h2 : a.tmps.getD s2 undef = .int .i64 x) (h3 : a.tmps.getD s3 undef = .int .i64 y) (hd : a.defers = [])
  (hx : W1.heap[w.heap.size]? = some (.cells #[.int .i64 0, .string ⟨#[]⟩, .int .i64 0, .int .i64 0, .bool false] 112 (0, 0))) (hb : Below w.heap.size w W1) (ht : .agg #[v0, v1, v2, v3, v4] = tokV t) :
  bodyPost Tryz.prog fn (fun e w' => e = .returned (.tuple #[tokV t, .int .i64 x, .int .i64 y]) ∧ Below w.heap.size w w') .ret a (put5 W1 w.heap.size v0 v1 v2 v3 v4) :=
 tok_ret s1 s2 s3 hfn h1 h2 h3 hd (put5_blk hx) ⟨by rw [ht], hb.trans ((put5_only W1 w.heap.size v0 v1 v2 v3 v4).below hb.size (fun i hi => by omega))⟩
theorem one_name (s : ByteArray) (w : World) (h0 : 0 < s.size) (hs : s.size ≤ 100000) (hl : letterB s[0] = true) :
  Calls Tryz.prog 96 #[.string s] w fun e w' => e = .returned (.tuple #[tokV (oneT s.data.toList).1, .int .i64 (oneT s.data.toList).2.1, .int .i64 (oneT s.data.toList).2.2]) ∧ Below w.heap.size w w' := by
 have hh := head_of s h0
 obtain ⟨n, hn⟩ : ∃ n, runL nameB s.data.toList = n := ⟨_, rfl⟩
 have hnl : n ≤ s.size := by rw [← hn, ← len_toList]; exact runL_le _ _
 obtain ⟨wd, hwd⟩ : ∃ b, isWordL (s.data.toList.take n) = b := ⟨_, rfl⟩
 have HV := Lib.hid (show oneT s.data.toList = (⟨if wd then 2 else 1, s.data.toList.take n, 0, 0, false⟩, (n : Int), 0) by
  unfold oneT oneM
  dsimp only
  rw [hh, if_pos hl, hn, hwd])
 have HL := rletter_any s[0]
 rw [hl] at HL
 have HL := Lib.hid HL
 have HR := rrun_any true s
 rw [runP_true, hn] at HR
 have HR := Lib.hid (fun w => HR w (by unfold maxLen; omega))
 have HW := risWord_any (s.extract 0 n)
 rw [ext_take, hwd] at HW
 have HW := Lib.hid HW
 have HE := Lib.hid (ext_bs s n)
 obtain ⟨W1, eW1⟩ : ∃ W, w.alloc (.cells #[.int .i64 0, .string ⟨#[]⟩, .int .i64 0, .int .i64 0, .bool false] 112) = W := ⟨_, rfl⟩
 have hb : Below w.heap.size w W1 := by rw [← eW1]; exact (Below.refl _ w).alloc (Nat.le_refl _) _
 have hx : W1.heap[w.heap.size]? = some (.cells #[.int .i64 0, .string ⟨#[]⟩, .int .i64 0, .int .i64 0, .bool false] 112 (0, 0)) := by rw [← eW1]; exact heap_alloc_new _ _
 obtain ⟨⟨y0, y1, y2, y3, y4⟩, g0, g1, g2, g3, g4⟩ := box_facts hx
 have HX := Lib.hid (And.intro hb hx)
 rw [HV.out]
 have gn : (n : Int) ≤ s.size := by omega
 clear hh hn hwd hl hb hx
 cases wd with
 | true =>
  go_enter Tryz.func96, Tryz.ntmps96
  go_wp2_with (first | (go_at_call 111; (with_reducible refine (HL.out _).mono ?_); rintro e w' ⟨rfl, rfl⟩) | (go_at_call 119; (with_reducible refine (HR.out _).mono ?_); rintro e w' ⟨rfl, rfl⟩) | (go_at_call 113; (with_reducible refine (HW.out _).mono ?_); rintro e w' ⟨rfl, rfl⟩))
  exact tok_fin (W1 := W1) 2 3 4 rfl rfl rfl rfl rfl HX.out.2 HX.out.1 (by rw [HE.out]; rfl)
 | false =>
  go_enter Tryz.func96, Tryz.ntmps96
  go_wp2_with (first | (go_at_call 111; (with_reducible refine (HL.out _).mono ?_); rintro e w' ⟨rfl, rfl⟩) | (go_at_call 119; (with_reducible refine (HR.out _).mono ?_); rintro e w' ⟨rfl, rfl⟩) | (go_at_call 113; (with_reducible refine (HW.out _).mono ?_); rintro e w' ⟨rfl, rfl⟩))
  exact tok_fin (W1 := W1) 2 3 4 rfl rfl rfl rfl rfl HX.out.2 HX.out.1 (by rw [HE.out]; rfl)
theorem one_num (s : ByteArray) (w : World) (h0 : 0 < s.size) (hs : s.size ≤ 100000) (hl : letterB s[0] = false) (hd : digitB s[0] = true) :
  Calls Tryz.prog 96 #[.string s] w fun e w' => e = .returned (.tuple #[tokV (oneT s.data.toList).1, .int .i64 (oneT s.data.toList).2.1, .int .i64 (oneT s.data.toList).2.2]) ∧ Below w.heap.size w w' := by
 have hh := head_of s h0
 obtain ⟨n, hn⟩ : ∃ n, runL digitB s.data.toList = n := ⟨_, rfl⟩
 obtain ⟨m, hm⟩ : ∃ n, runL nameB s.data.toList = n := ⟨_, rfl⟩
 have hnl : n ≤ s.size := by rw [← hn, ← len_toList]; exact runL_le _ _
 have hn1 : 0 < n := by
  obtain ⟨r, e⟩ := list_one s h0
  rw [← hn, e]
  unfold runL
  rw [List.takeWhile_cons, if_pos hd, List.length_cons]
  omega
 have HL := rletter_any s[0]
 rw [hl] at HL
 have HL := Lib.hid HL
 have HD := rdigit_any s[0]
 rw [hd] at HD
 have HD := Lib.hid HD
 have HR1 := rrun_any false s
 rw [runP_false, hn] at HR1
 have HR1 := Lib.hid (fun w => HR1 w (by unfold maxLen; omega))
 have HR2 := rrun_any true s
 rw [runP_true, hm] at HR2
 have HR2 := Lib.hid (fun w => HR2 w (by unfold maxLen; omega))
 have hds : ∀ c ∈ s.data.toList.take n, digitB c = true := fun c hc => by
  rw [← hn] at hc
  unfold runL at hc
  have := List.takeWhile_prefix (p := digitB) (l := s.data.toList)
  rw [← List.prefix_iff_eq_take.1 this] at hc
  exact List.all_eq_true.1 (List.all_takeWhile) c hc
 have hes : (s.extract 0 n).size = n := by rw [← len_toList, ext_take, List.length_take, len_toList]; omega
 have HNm := fun w => number_any (s.extract 0 n) w (by omega) (by unfold maxLen; omega) (by rw [ext_take]; exact hds)
 rw [ext_take] at HNm
 obtain ⟨o, ho⟩ : ∃ o, numberM (s.data.toList.take n) = o := ⟨_, rfl⟩
 rw [ho] at HNm
 have hone : oneT s.data.toList = (if (s.data.toList.drop n).head? = some 46 then (zeroTok, 0, 25) else numAns o m n : Tok × Int × Int) := by
  unfold oneT oneM
  dsimp only
  rw [hh, if_neg (by rw [hl]; decide), if_pos hd, hn, hm]
  by_cases hdt : (s.data.toList.drop n).head? = some 46
  ·rw [if_pos hdt, if_pos hdt]
  ·rw [if_neg hdt, if_neg hdt, ho]
   cases o with
   | none => rfl
   | some v =>
    unfold numAns
    dsimp only
    by_cases hmn : m ≠ n
    ·rw [if_pos hmn, if_pos hmn]
    ·rw [if_neg hmn, if_neg hmn]
 obtain ⟨W1, eW1⟩ : ∃ W, w.alloc (.cells #[.int .i64 0, .string ⟨#[]⟩, .int .i64 0, .int .i64 0, .bool false] 112) = W := ⟨_, rfl⟩
 have hb : Below w.heap.size w W1 := by rw [← eW1]; exact (Below.refl _ w).alloc (Nat.le_refl _) _
 have hx : W1.heap[w.heap.size]? = some (.cells #[.int .i64 0, .string ⟨#[]⟩, .int .i64 0, .int .i64 0, .bool false] 112 (0, 0)) := by rw [← eW1]; exact heap_alloc_new _ _
 obtain ⟨⟨y0, y1, y2, y3, y4⟩, g0, g1, g2, g3, g4⟩ := box_facts hx
 have HX := Lib.hid (And.intro hb hx)
 have gn : (n : Int) ≤ s.size := by omega
 have HNm := Lib.hid HNm
 have hdot : (s.data.toList.drop n).head? = some 46 ↔ ∃ h : n < s.size, s[n].toNat = 46 := by
  rw [List.head?_drop]
  constructor
  ·intro h
   have hlt : n < s.size := by
    have := (List.getElem?_eq_some_iff.1 h).1
    rwa [len_toList] at this
   rw [get_toList s n hlt] at h
   exact ⟨hlt, by rw [Option.some.inj h]; rfl⟩
  ·rintro ⟨h, e⟩
   rw [get_toList s n h, u8_lit (k := 46) (by decide) e]
   rfl
 rw [hone]
 clear hh hn hm hl hd hb hx hone ho hes hds hn1
 by_cases hlt : n < s.size
 ·have hlt' : (n : Int) < s.size := by omega
  by_cases hc : s[n].toNat = 46
  ·have hc' : (s[n].toNat : Int) = 46 := by omega
   rw [if_pos (hdot.2 ⟨hlt, hc⟩)]
   clear hdot hc
   go_enter Tryz.func96, Tryz.ntmps96
   go_wp2_with (first | (go_at_call 111; (with_reducible refine (HL.out _).mono ?_); rintro e w' ⟨rfl, rfl⟩) | (go_at_call 112; (with_reducible refine (HD.out _).mono ?_); rintro e w' ⟨rfl, rfl⟩) | (go_at_call 119; (with_reducible refine (HR1.out _).mono ?_); rintro e w' ⟨rfl, rfl⟩) | (go_at_call 119; (with_reducible refine (HR2.out _).mono ?_); rintro e w' ⟨rfl, rfl⟩) | (go_at_call 120; (with_reducible refine (HNm.out _).mono ?_); rintro e w' ⟨rfl, rfl⟩))
   exact tok_fin (t := zeroTok) (W1 := W1) 2 3 4 rfl rfl rfl rfl rfl HX.out.2 HX.out.1 rfl
  ·have hc' : ((s[n].toNat : Int) == 46) = false := by rw [beq_eq_false_iff_ne]; omega
   rw [if_neg (fun h => hc (hdot.1 h).2)]
   clear hdot hc
   cases o with
   | none =>
    rw [show numAns none m n = (zeroTok, 0, 24) from rfl]
    go_enter Tryz.func96, Tryz.ntmps96
    go_wp2_with (first | (go_at_call 111; (with_reducible refine (HL.out _).mono ?_); rintro e w' ⟨rfl, rfl⟩) | (go_at_call 112; (with_reducible refine (HD.out _).mono ?_); rintro e w' ⟨rfl, rfl⟩) | (go_at_call 119; (with_reducible refine (HR1.out _).mono ?_); rintro e w' ⟨rfl, rfl⟩) | (go_at_call 119; (with_reducible refine (HR2.out _).mono ?_); rintro e w' ⟨rfl, rfl⟩) | (go_at_call 120; (with_reducible refine (HNm.out _).mono ?_); rintro e w' ⟨rfl, rfl⟩))
    exact tok_fin (t := zeroTok) (W1 := W1) 2 3 4 rfl rfl rfl rfl rfl HX.out.2 HX.out.1 rfl
   | some v =>
    by_cases hmn : m = n
    ·subst hmn
     rw [show numAns (some v) m m = (⟨3, [], v, 0, false⟩, (m : Int), 0) from if_neg (by simp)]
     go_enter Tryz.func96, Tryz.ntmps96
     go_wp2_with (first | (go_at_call 111; (with_reducible refine (HL.out _).mono ?_); rintro e w' ⟨rfl, rfl⟩) | (go_at_call 112; (with_reducible refine (HD.out _).mono ?_); rintro e w' ⟨rfl, rfl⟩) | (go_at_call 119; (with_reducible refine (HR1.out _).mono ?_); rintro e w' ⟨rfl, rfl⟩) | (go_at_call 119; (with_reducible refine (HR2.out _).mono ?_); rintro e w' ⟨rfl, rfl⟩) | (go_at_call 120; (with_reducible refine (HNm.out _).mono ?_); rintro e w' ⟨rfl, rfl⟩))
     exact tok_fin (W1 := W1) 2 3 4 rfl rfl rfl rfl rfl HX.out.2 HX.out.1 rfl
    ·have hmn' : ((m : Int) != (n : Int)) = true := by rw [bne_iff_ne]; omega
     rw [show numAns (some v) m n = (zeroTok, 0, 24) from if_pos hmn]
     go_enter Tryz.func96, Tryz.ntmps96
     go_wp2_with (first | (go_at_call 111; (with_reducible refine (HL.out _).mono ?_); rintro e w' ⟨rfl, rfl⟩) | (go_at_call 112; (with_reducible refine (HD.out _).mono ?_); rintro e w' ⟨rfl, rfl⟩) | (go_at_call 119; (with_reducible refine (HR1.out _).mono ?_); rintro e w' ⟨rfl, rfl⟩) | (go_at_call 119; (with_reducible refine (HR2.out _).mono ?_); rintro e w' ⟨rfl, rfl⟩) | (go_at_call 120; (with_reducible refine (HNm.out _).mono ?_); rintro e w' ⟨rfl, rfl⟩))
     exact tok_fin (t := zeroTok) (W1 := W1) 2 3 4 rfl rfl rfl rfl rfl HX.out.2 HX.out.1 rfl
 ·have hlt' : ¬ (n : Int) < s.size := by omega
  rw [if_neg (fun h => hlt (hdot.1 h).1)]
  clear hdot
  cases o with
  | none =>
   rw [show numAns none m n = (zeroTok, 0, 24) from rfl]
   go_enter Tryz.func96, Tryz.ntmps96
   go_wp2_with (first | (go_at_call 111; (with_reducible refine (HL.out _).mono ?_); rintro e w' ⟨rfl, rfl⟩) | (go_at_call 112; (with_reducible refine (HD.out _).mono ?_); rintro e w' ⟨rfl, rfl⟩) | (go_at_call 119; (with_reducible refine (HR1.out _).mono ?_); rintro e w' ⟨rfl, rfl⟩) | (go_at_call 119; (with_reducible refine (HR2.out _).mono ?_); rintro e w' ⟨rfl, rfl⟩) | (go_at_call 120; (with_reducible refine (HNm.out _).mono ?_); rintro e w' ⟨rfl, rfl⟩))
   exact tok_fin (t := zeroTok) (W1 := W1) 2 3 4 rfl rfl rfl rfl rfl HX.out.2 HX.out.1 rfl
  | some v =>
   by_cases hmn : m = n
   ·subst hmn
    rw [show numAns (some v) m m = (⟨3, [], v, 0, false⟩, (m : Int), 0) from if_neg (by simp)]
    go_enter Tryz.func96, Tryz.ntmps96
    go_wp2_with (first | (go_at_call 111; (with_reducible refine (HL.out _).mono ?_); rintro e w' ⟨rfl, rfl⟩) | (go_at_call 112; (with_reducible refine (HD.out _).mono ?_); rintro e w' ⟨rfl, rfl⟩) | (go_at_call 119; (with_reducible refine (HR1.out _).mono ?_); rintro e w' ⟨rfl, rfl⟩) | (go_at_call 119; (with_reducible refine (HR2.out _).mono ?_); rintro e w' ⟨rfl, rfl⟩) | (go_at_call 120; (with_reducible refine (HNm.out _).mono ?_); rintro e w' ⟨rfl, rfl⟩))
    exact tok_fin (W1 := W1) 2 3 4 rfl rfl rfl rfl rfl HX.out.2 HX.out.1 rfl
   ·have hmn' : ((m : Int) != (n : Int)) = true := by rw [bne_iff_ne]; omega
    rw [show numAns (some v) m n = (zeroTok, 0, 24) from if_pos hmn]
    go_enter Tryz.func96, Tryz.ntmps96
    go_wp2_with (first | (go_at_call 111; (with_reducible refine (HL.out _).mono ?_); rintro e w' ⟨rfl, rfl⟩) | (go_at_call 112; (with_reducible refine (HD.out _).mono ?_); rintro e w' ⟨rfl, rfl⟩) | (go_at_call 119; (with_reducible refine (HR1.out _).mono ?_); rintro e w' ⟨rfl, rfl⟩) | (go_at_call 119; (with_reducible refine (HR2.out _).mono ?_); rintro e w' ⟨rfl, rfl⟩) | (go_at_call 120; (with_reducible refine (HNm.out _).mono ?_); rintro e w' ⟨rfl, rfl⟩))
    exact tok_fin (t := zeroTok) (W1 := W1) 2 3 4 rfl rfl rfl rfl rfl HX.out.2 HX.out.1 rfl
theorem one_sign (s : ByteArray) (w : World) (h0 : 0 < s.size) (hs : s.size ≤ 100000) (hl : letterB s[0] = false) (hd : digitB s[0] = false) (hq : s[0].toNat ≠ 34 ∧ s[0].toNat ≠ 39) :
  Calls Tryz.prog 96 #[.string s] w fun e w' => e = .returned (.tuple #[tokV (oneT s.data.toList).1, .int .i64 (oneT s.data.toList).2.1, .int .i64 (oneT s.data.toList).2.2]) ∧ Below w.heap.size w w' := by
 have hh := head_of s h0
 obtain ⟨n, hn⟩ : ∃ n, signM s.data.toList = n := ⟨_, rfl⟩
 have hnl : n ≤ s.size := by
  rw [← hn, ← len_toList]
  unfold signM
  split
  ·rename_i h
   have : (s.data.toList.take 3).length = 3 := by
    unfold sign3 at h
    simp only [List.mem_cons, List.not_mem_nil, or_false] at h
    rcases h with h | h <;> rw [h] <;> rfl
   rw [List.length_take] at this
   omega
  ·split
   ·rename_i h
    have : (s.data.toList.take 2).length = 2 := by
     unfold sign2 at h
     simp only [List.mem_cons, List.not_mem_nil, or_false] at h
     rcases h with h | h | h <;> rw [h] <;> rfl
    rw [List.length_take] at this
    omega
   ·rw [len_toList]; split <;> omega
 have hone : oneT s.data.toList = (if n = 0 then (zeroTok, 0, 21) else (⟨5, s.data.toList.take n, 0, 0, false⟩, (n : Int), 0) : Tok × Int × Int) := by
  unfold oneT oneM
  dsimp only
  rw [hh, if_neg (by rw [hl]; decide), if_neg (by rw [hd]; decide), if_neg (fun h => by rcases h with h | h <;> simp [h] at hq), hn]
  by_cases hz : n = 0
  ·rw [if_pos hz, if_pos hz]
  ·rw [if_neg hz, if_neg hz]
 have HL := rletter_any s[0]
 rw [hl] at HL
 have HL := Lib.hid HL
 have HD := rdigit_any s[0]
 rw [hd] at HD
 have HD := Lib.hid HD
 have HS := fun w => sign_any s w h0 (by unfold maxLen; omega)
 rw [hn] at HS
 have HS := Lib.hid HS
 have HE := Lib.hid (ext_bs s n)
 have q1 : ((s[0].toNat : Int) == 34) = false := by rw [beq_eq_false_iff_ne]; omega
 have q2 : ((s[0].toNat : Int) == 39) = false := by rw [beq_eq_false_iff_ne]; omega
 obtain ⟨W1, eW1⟩ : ∃ W, w.alloc (.cells #[.int .i64 0, .string ⟨#[]⟩, .int .i64 0, .int .i64 0, .bool false] 112) = W := ⟨_, rfl⟩
 have hb : Below w.heap.size w W1 := by rw [← eW1]; exact (Below.refl _ w).alloc (Nat.le_refl _) _
 have hx : W1.heap[w.heap.size]? = some (.cells #[.int .i64 0, .string ⟨#[]⟩, .int .i64 0, .int .i64 0, .bool false] 112 (0, 0)) := by rw [← eW1]; exact heap_alloc_new _ _
 obtain ⟨⟨y0, y1, y2, y3, y4⟩, g0, g1, g2, g3, g4⟩ := box_facts hx
 have HX := Lib.hid (And.intro hb hx)
 have gn : (n : Int) ≤ s.size := by omega
 rw [hone]
 clear hh hn hl hd hb hx hone hq
 by_cases hz : n = 0
 ·subst hz
  rw [if_pos rfl]
  go_enter Tryz.func96, Tryz.ntmps96
  go_wp2_with (first | (go_at_call 111; (with_reducible refine (HL.out _).mono ?_); rintro e w' ⟨rfl, rfl⟩) | (go_at_call 112; (with_reducible refine (HD.out _).mono ?_); rintro e w' ⟨rfl, rfl⟩) | (go_at_call 122; (with_reducible refine (HS.out _).mono ?_); rintro e w' ⟨rfl, rfl⟩))
  exact tok_fin (t := zeroTok) (W1 := W1) 2 3 4 rfl rfl rfl rfl rfl HX.out.2 HX.out.1 rfl
 ·have hz' : ((n : Int) == 0) = false := by rw [beq_eq_false_iff_ne]; omega
  rw [if_neg hz]
  go_enter Tryz.func96, Tryz.ntmps96
  go_wp2_with (first | (go_at_call 111; (with_reducible refine (HL.out _).mono ?_); rintro e w' ⟨rfl, rfl⟩) | (go_at_call 112; (with_reducible refine (HD.out _).mono ?_); rintro e w' ⟨rfl, rfl⟩) | (go_at_call 122; (with_reducible refine (HS.out _).mono ?_); rintro e w' ⟨rfl, rfl⟩))
  exact tok_fin (W1 := W1) 2 3 4 rfl rfl rfl rfl rfl HX.out.2 HX.out.1 (by rw [HE.out]; rfl)
end
section
open Go.RowKit Go.Proofs
theorem halfM_range (c : UInt8) : -1 ≤ halfM c ∧ halfM c ≤ 15 := by
 unfold halfM
 have := fun h => (digitB_iff c).1 h
 cases h : digitB c with
 | true => have := this h; simp; omega
 | false =>
  simp only [Bool.false_eq_true, if_false]
  split <;> omega
theorem esc_two {a c : UInt8} {r : Bs} : escapeM (a :: c :: r) = if c = 110 then (10, 2) else if c = 116 then (9, 2) else if c = 92 ∨ c = 34 ∨ c = 39 then (c, 2)
  else if c = 120 then match r with
   | a :: b :: _ => if 0 ≤ halfM a ∧ 0 ≤ halfM b then (UInt8.ofNat (16 * halfM a + halfM b).toNat, 4) else (0, 0)
   | _ => (0, 0)
  else (0, 0) := rfl
theorem esc_len (l : Bs) : (escapeM l).2 ≤ l.length := by
 match l with
 | [] => simp [escapeM]
 | [_] => simp [escapeM]
 | a :: c :: r =>
  rw [esc_two]
  split
  ·simp
  ·split
   ·simp
   ·split
    ·simp
    ·split
     ·match r with
      | [] => simp
      | [_] => simp
      | x :: y :: q =>
       dsimp only
       split
       ·simp
       ·simp
     ·simp
theorem ne_lit {c : UInt8} {k : Nat} (hk : k < 256) (h : c.toNat ≠ k) : c ≠ UInt8.ofNat k := fun e => h (by rw [e, UInt8.toNat_ofNat', Nat.mod_eq_of_lt hk])
theorem escape_any (s : ByteArray) (w : World) (hs : s.size ≤ 100000) :
  Calls Tryz.prog 137 #[.string s] w fun e w' => e = .returned (.tuple #[.int .u8 (escapeM s.data.toList).1.toNat, .int .i64 (escapeM s.data.toList).2]) ∧ Drewn w w' := by
 by_cases h2 : s.size < 2
 ·have f2 : (s.size : Int) < 2 := by omega
  have HV := Lib.hid (show escapeM s.data.toList = (0, 0) by
   have hl := len_toList s
   match hq : s.data.toList with
   | [] => rfl
   | [_] => rfl
   | a :: b :: r => rw [hq] at hl; simp at hl; omega)
  go_enter Tryz.func137, Tryz.ntmps137
  go_wp2
  exact bodyPost_ret (results_tmp2 rfl _ _ _) rfl ⟨by rw [HV.out]; rfl, 0, rfl⟩
 have f2 : ¬ (s.size : Int) < 2 := by omega
 have g1 : (1 : Int) < s.size := by omega
 have hl := list_two s (by omega)
 rw [hl, esc_two]
 clear hl
 by_cases c1 : s[1].toNat = 110
 ·have e1 : (s[1].toNat : Int) = 110 := by omega
  rw [if_pos (show s[1] = 110 from u8_lit (by decide) c1)]
  clear c1
  go_enter Tryz.func137, Tryz.ntmps137
  go_wp2
  exact bodyPost_ret (results_tmp2 rfl _ _ _) rfl ⟨rfl, 0, rfl⟩
 rw [if_neg (show ¬ s[1] = 110 from ne_lit (by decide) c1)]
 have e1 : ((s[1].toNat : Int) == 110) = false := by rw [beq_eq_false_iff_ne]; omega
 by_cases c2 : s[1].toNat = 116
 ·have e2 : (s[1].toNat : Int) = 116 := by omega
  rw [if_pos (show s[1] = 116 from u8_lit (by decide) c2)]
  clear c1 c2
  go_enter Tryz.func137, Tryz.ntmps137
  go_wp2
  exact bodyPost_ret (results_tmp2 rfl _ _ _) rfl ⟨rfl, 0, rfl⟩
 rw [if_neg (show ¬ s[1] = 116 from ne_lit (by decide) c2)]
 have e2 : ((s[1].toNat : Int) == 116) = false := by rw [beq_eq_false_iff_ne]; omega
 by_cases c3 : s[1].toNat = 92 ∨ s[1].toNat = 34 ∨ s[1].toNat = 39
 ·rw [if_pos (by
   rcases c3 with h | h | h
   ·exact .inl (u8_lit (by decide) h)
   ·exact .inr (.inl (u8_lit (by decide) h))
   ·exact .inr (.inr (u8_lit (by decide) h)))]
  have c3' : (s[1].toNat : Int) = 92 ∨ (s[1].toNat : Int) = 34 ∨ (s[1].toNat : Int) = 39 := by omega
  clear c1 c2 e1 e2
  rcases c3' with e | e | e
  all_goals
   go_enter Tryz.func137, Tryz.ntmps137
   go_wp2
   exact bodyPost_ret (results_tmp2 rfl _ _ _) rfl ⟨by first | rfl | (simp [e]; done) | (rw [← e]; rfl), 0, rfl⟩
 rw [if_neg (fun h => c3 (by rcases h with h | h | h <;> rw [h] <;> simp))]
 have e3 : ((s[1].toNat : Int) == 92) = false := by rw [beq_eq_false_iff_ne]; omega
 have e4 : ((s[1].toNat : Int) == 34) = false := by rw [beq_eq_false_iff_ne]; omega
 have e5 : ((s[1].toNat : Int) == 39) = false := by rw [beq_eq_false_iff_ne]; omega
 by_cases c4 : s[1].toNat = 120
 ·rw [if_pos (show s[1] = 120 from u8_lit (by decide) c4)]
  have e6 : (s[1].toNat : Int) = 120 := by omega
  by_cases h4 : s.size < 4
  ·have f4 : ¬ (4 : Int) ≤ s.size := by omega
   have hl : (s.data.toList.drop 2).length = s.size - 2 := by rw [List.length_drop, len_toList]
   clear c1 c2 c3 c4 e1 e2 e3 e4 e5
   rcases hq : s.data.toList.drop 2 with _ | ⟨a, _ | ⟨b, r⟩⟩
   ·clear hq hl
    dsimp only
    go_enter Tryz.func137, Tryz.ntmps137
    go_wp2
    exact bodyPost_ret (results_tmp2 rfl _ _ _) rfl ⟨rfl, 0, rfl⟩
   ·clear hq hl
    dsimp only
    go_enter Tryz.func137, Tryz.ntmps137
    go_wp2
    exact bodyPost_ret (results_tmp2 rfl _ _ _) rfl ⟨rfl, 0, rfl⟩
   ·rw [hq] at hl; simp at hl; omega
  ·have f4 : (4 : Int) ≤ s.size := by omega
   have g2 : (2 : Int) < s.size := by omega
   have g3 : (3 : Int) < s.size := by omega
   have hd : s.data.toList.drop 2 = s[2] :: s[3] :: s.data.toList.drop 4 := by rw [drop_toList s 2 (by omega), drop_toList s 3 (by omega)]
   rw [hd]
   dsimp only
   obtain ⟨x, hx⟩ : ∃ x, halfM s[2] = x := ⟨_, rfl⟩
   obtain ⟨y, hy⟩ : ∃ y, halfM s[3] = y := ⟨_, rfl⟩
   have r1 := halfM_range s[2]
   have r2 := halfM_range s[3]
   have H2 := half_any s[2]
   have H3 := half_any s[3]
   rw [hx] at r1 H2 ⊢
   rw [hy] at r2 H3 ⊢
   have H2 := Lib.hid H2
   have H3 := Lib.hid H3
   clear hd hx hy c1 c2 c3 c4 e1 e2 e3 e4 e5
   by_cases p : 0 ≤ x
   ·by_cases q : 0 ≤ y
    ·rw [if_pos ⟨p, q⟩]
     obtain ⟨z, hz⟩ : ∃ z : Int, 16 * x + y = z := ⟨_, rfl⟩
     have w1 : IntKind.i64.wrap (16 * x) = 16 * x := IntWalk.i64_in _ (by omega)
     have w2 : IntKind.i64.wrap (16 * x + y) = 16 * x + y := IntWalk.i64_in _ (by omega)
     have w3 : IntKind.u8.wrap (16 * x + y) = 16 * x + y := IntWalk.u8_in _ (by omega)
     have HZ := Lib.hid (show 16 * x + y = ((UInt8.ofNat (16 * x + y).toNat).toNat : Int) by rw [UInt8.toNat_ofNat', Nat.mod_eq_of_lt (by omega)]; omega)
     clear hz
     go_enter Tryz.func137, Tryz.ntmps137
     go_wp2_with (first | (go_at_call 144; (with_reducible refine (H2.out _).mono ?_); rintro e w' ⟨rfl, rfl⟩) | (go_at_call 144; (with_reducible refine (H3.out _).mono ?_); rintro e w' ⟨rfl, rfl⟩))
     go_region_law (first
      | (go_simp; go_at_call 144; (with_reducible refine (H2.out _).mono ?_); rintro e w' ⟨rfl, rfl⟩)
      | (go_simp; go_at_call 144; (with_reducible refine (H3.out _).mono ?_); rintro e w' ⟨rfl, rfl⟩))
     all_goals
      go_wp2
      exact bodyPost_ret (results_tmp2 rfl _ _ _) rfl ⟨by have h := HZ.out; generalize (UInt8.ofNat (16 * x + y).toNat).toNat = q at h ⊢; show Ending.returned (.tuple #[.int .u8 (16 * x + y), .int .i64 4]) = _; rw [h]; rfl, 1, rfl⟩
    ·rw [if_neg (fun h => q h.2)]
     go_enter Tryz.func137, Tryz.ntmps137
     go_wp2_with (first | (go_at_call 144; (with_reducible refine (H2.out _).mono ?_); rintro e w' ⟨rfl, rfl⟩) | (go_at_call 144; (with_reducible refine (H3.out _).mono ?_); rintro e w' ⟨rfl, rfl⟩))
     exact bodyPost_ret (results_tmp2 rfl _ _ _) rfl ⟨rfl, 0, rfl⟩
   ·rw [if_neg (fun h => p h.1)]
    go_enter Tryz.func137, Tryz.ntmps137
    go_wp2_with (first | (go_at_call 144; (with_reducible refine (H2.out _).mono ?_); rintro e w' ⟨rfl, rfl⟩) | (go_at_call 144; (with_reducible refine (H3.out _).mono ?_); rintro e w' ⟨rfl, rfl⟩))
    exact bodyPost_ret (results_tmp2 rfl _ _ _) rfl ⟨rfl, 0, rfl⟩
 ·rw [if_neg (show ¬ s[1] = 120 from ne_lit (by decide) c4)]
  have e6 : ((s[1].toNat : Int) == 120) = false := by rw [beq_eq_false_iff_ne]; omega
  clear c1 c2 c3 c4
  go_enter Tryz.func137, Tryz.ntmps137
  go_wp2
  exact bodyPost_ret (results_tmp2 rfl _ _ _) rfl ⟨rfl, 0, rfl⟩
end
end Go.Proofs.YtikbfoichhkeaaaGreat
