/- The document's tokens: the first one. -/
import Derived.Test.YtbpodijcndglgaaPn32
import Derived.Test.YtbpodijcndglgaaPn33
import Derived.Test.YtbpodijcndglgaaPn34
set_option linter.unusedSimpArgs false
set_option linter.unusedVariables false
set_option maxRecDepth 100000
set_option maxHeartbeats 40000000
namespace Go.Proofs.Ytbpodijcndglgaa
section
open Go.RowKit Go.Proofs
def zeroTok : Tok := ⟨0, [], 0, 0, false⟩
def oneT (l : Bs) : Tok × Int × Int := match oneM l with
 | .ok (t, n) => (t, n, 0)
 | .error e => (zeroTok, 0, e)
def numAns (o : Option Nat) (m n : Nat) : Tok × Int × Int := match o with
 | none => (zeroTok, 0, 24)
 | some v => if m ≠ n then (zeroTok, 0, 24) else (⟨3, [], v, 0, false⟩, (n : Int), 0)
theorem ext_bs (s : ByteArray) (n : Nat) : s.extract 0 n = bs (s.data.toList.take n) := by
 rw [← ext_take, bs_of]
theorem tok_ret {w W : World} {fn : Func} {a : Act} {x y : Int} {v0 v1 v2 v3 v4 : Value} {R : Ending → World → Prop} (s1 s2 s3 : Nat) (hfn : fn.results = #[.cell s1 83, .tmp s2, .tmp s3]) (h1 : a.tmps.getD s1 undef = .pointer (some ⟨w.heap.size, 0, none⟩)) (h2 : a.tmps.getD s2 undef = .int .i64 x) (h3 : a.tmps.getD s3 undef = .int .i64 y) (hd : a.defers = [])
  (hx : W.heap[w.heap.size]? = some (.cells #[v0, v1, v2, v3, v4] 83 (0, 0))) (hR : R (.returned (.tuple #[.agg #[v0, v1, v2, v3, v4], .int .i64 x, .int .i64 y])) W) :
  bodyPost Try.prog fn R .ret a W := by
 obtain ⟨⟨y0, y1, y2, y3, y4⟩, -⟩ := box_facts hx
 refine bodyPost_ret (v := .tuple #[.agg #[v0, v1, v2, v3, v4], .int .i64 x, .int .i64 y]) ?_ hd hR
 have e1 : a.tmps[s1]?.getD undef = .pointer (some ⟨w.heap.size, 0, none⟩) := by rw [← Array.getD_eq_getD_getElem?]; exact h1
 have e2 : a.tmps[s2]?.getD undef = .int .i64 x := by rw [← Array.getD_eq_getD_getElem?]; exact h2
 have e3 : a.tmps[s3]?.getD undef = .int .i64 y := by rw [← Array.getD_eq_getD_getElem?]; exact h3
 simp [results, hfn, e1, e2, e3, go_sem, y0, y1, y2, y3, y4]
theorem tok_fin {w W1 : World} {fn : Func} {a : Act} {x y : Int} {v0 v1 v2 v3 v4 : Value} {t : Tok} (s1 s2 s3 : Nat) (hfn : fn.results = #[.cell s1 83, .tmp s2, .tmp s3]) (h1 : a.tmps.getD s1 undef = .pointer (some ⟨w.heap.size, 0, none⟩)) (h2 : a.tmps.getD s2 undef = .int .i64 x) (h3 : a.tmps.getD s3 undef = .int .i64 y) (hd : a.defers = [])
  (hx : W1.heap[w.heap.size]? = some (.cells #[.int .i64 0, .string ⟨#[]⟩, .int .i64 0, .int .i64 0, .bool false] 83 (0, 0))) (hb : Below w.heap.size w W1) (ht : .agg #[v0, v1, v2, v3, v4] = tokV t) :
  bodyPost Try.prog fn (fun e w' => e = .returned (.tuple #[tokV t, .int .i64 x, .int .i64 y]) ∧ Below w.heap.size w w') .ret a (put5 W1 w.heap.size v0 v1 v2 v3 v4) :=
 tok_ret s1 s2 s3 hfn h1 h2 h3 hd (put5_blk hx) ⟨by rw [ht], hb.trans ((put5_only W1 w.heap.size v0 v1 v2 v3 v4).below hb.size (fun i hi => by omega))⟩
theorem one_name (s : ByteArray) (w : World) (h0 : 0 < s.size) (hs : s.size ≤ 100000) (hl : letterB s[0] = true) :
  Calls Try.prog 53 #[.string s] w fun e w' => e = .returned (.tuple #[tokV (oneT s.data.toList).1, .int .i64 (oneT s.data.toList).2.1, .int .i64 (oneT s.data.toList).2.2]) ∧ Below w.heap.size w w' := by
 have hh := head_of s h0
 obtain ⟨n, hn⟩ : ∃ n, runL nameB s.data.toList = n := ⟨_, rfl⟩
 have hnl : n ≤ s.size := by rw [← hn, ← len_toList]; exact runL_le _ _
 obtain ⟨wd, hwd⟩ : ∃ b, isWordL (s.data.toList.take n) = b := ⟨_, rfl⟩
 have HV := Lib.hid (show oneT s.data.toList = (⟨if wd then 2 else 1, s.data.toList.take n, 0, 0, false⟩, (n : Int), 0) by
  unfold oneT oneM
  dsimp only
  rw [hh, if_pos hl, hn, hwd])
 have HL := rletter_any s[0]
 rw [hl] at HL
 have HL := Lib.hid HL
 have HR := rrun_any true s
 rw [runP_true, hn] at HR
 have HR := Lib.hid (fun w => HR w (by unfold maxLen; omega))
 have HW := risWord_any (s.extract 0 n)
 rw [ext_take, hwd] at HW
 have HW := Lib.hid HW
 have HE := Lib.hid (ext_bs s n)
 obtain ⟨W1, eW1⟩ : ∃ W, w.alloc (.cells #[.int .i64 0, .string ⟨#[]⟩, .int .i64 0, .int .i64 0, .bool false] 83) = W := ⟨_, rfl⟩
 have hb : Below w.heap.size w W1 := by rw [← eW1]; exact (Below.refl _ w).alloc (Nat.le_refl _) _
 have hx : W1.heap[w.heap.size]? = some (.cells #[.int .i64 0, .string ⟨#[]⟩, .int .i64 0, .int .i64 0, .bool false] 83 (0, 0)) := by rw [← eW1]; exact heap_alloc_new _ _
 obtain ⟨⟨y0, y1, y2, y3, y4⟩, g0, g1, g2, g3, g4⟩ := box_facts hx
 have HX := Lib.hid (And.intro hb hx)
 rw [HV.out]
 have gn : (n : Int) ≤ s.size := by omega
 clear hh hn hwd hl hb hx
 cases wd with
 | true =>
  go_enter Try.func53, Try.ntmps53
  go_wp2_with (first | (go_at_call 67; (with_reducible refine (HL.out _).mono ?_); rintro e w' ⟨rfl, rfl⟩) | (go_at_call 68; (with_reducible refine (HR.out _).mono ?_); rintro e w' ⟨rfl, rfl⟩) | (go_at_call 69; (with_reducible refine (HW.out _).mono ?_); rintro e w' ⟨rfl, rfl⟩))
  exact tok_fin (W1 := W1) 2 3 4 rfl rfl rfl rfl rfl HX.out.2 HX.out.1 (by rw [HE.out]; rfl)
 | false =>
  go_enter Try.func53, Try.ntmps53
  go_wp2_with (first | (go_at_call 67; (with_reducible refine (HL.out _).mono ?_); rintro e w' ⟨rfl, rfl⟩) | (go_at_call 68; (with_reducible refine (HR.out _).mono ?_); rintro e w' ⟨rfl, rfl⟩) | (go_at_call 69; (with_reducible refine (HW.out _).mono ?_); rintro e w' ⟨rfl, rfl⟩))
  exact tok_fin (W1 := W1) 2 3 4 rfl rfl rfl rfl rfl HX.out.2 HX.out.1 (by rw [HE.out]; rfl)
theorem one_num (s : ByteArray) (w : World) (h0 : 0 < s.size) (hs : s.size ≤ 100000) (hl : letterB s[0] = false) (hd : digitB s[0] = true) :
  Calls Try.prog 53 #[.string s] w fun e w' => e = .returned (.tuple #[tokV (oneT s.data.toList).1, .int .i64 (oneT s.data.toList).2.1, .int .i64 (oneT s.data.toList).2.2]) ∧ Below w.heap.size w w' := by
 have hh := head_of s h0
 obtain ⟨n, hn⟩ : ∃ n, runL digitB s.data.toList = n := ⟨_, rfl⟩
 obtain ⟨m, hm⟩ : ∃ n, runL nameB s.data.toList = n := ⟨_, rfl⟩
 have hnl : n ≤ s.size := by rw [← hn, ← len_toList]; exact runL_le _ _
 have hn1 : 0 < n := by
  obtain ⟨r, e⟩ := list_one s h0
  rw [← hn, e]
  unfold runL
  rw [List.takeWhile_cons, if_pos hd, List.length_cons]
  omega
 have HL := rletter_any s[0]
 rw [hl] at HL
 have HL := Lib.hid HL
 have HD := rdigit_any s[0]
 rw [hd] at HD
 have HD := Lib.hid HD
 have HR1 := rrun_any false s
 rw [runP_false, hn] at HR1
 have HR1 := Lib.hid (fun w => HR1 w (by unfold maxLen; omega))
 have HR2 := rrun_any true s
 rw [runP_true, hm] at HR2
 have HR2 := Lib.hid (fun w => HR2 w (by unfold maxLen; omega))
 have hds : ∀ c ∈ s.data.toList.take n, digitB c = true := fun c hc => by
  rw [← hn] at hc
  unfold runL at hc
  have := List.takeWhile_prefix (p := digitB) (l := s.data.toList)
  rw [← List.prefix_iff_eq_take.1 this] at hc
  exact List.all_eq_true.1 (List.all_takeWhile) c hc
 have hes : (s.extract 0 n).size = n := by rw [← len_toList, ext_take, List.length_take, len_toList]; omega
 have HNm := fun w => number_any (s.extract 0 n) w (by omega) (by unfold maxLen; omega) (by rw [ext_take]; exact hds)
 rw [ext_take] at HNm
 obtain ⟨o, ho⟩ : ∃ o, numberM (s.data.toList.take n) = o := ⟨_, rfl⟩
 rw [ho] at HNm
 have hone : oneT s.data.toList = (if (s.data.toList.drop n).head? = some 46 then (zeroTok, 0, 25) else numAns o m n : Tok × Int × Int) := by
  unfold oneT oneM
  dsimp only
  rw [hh, if_neg (by rw [hl]; decide), if_pos hd, hn, hm]
  by_cases hdt : (s.data.toList.drop n).head? = some 46
  ·rw [if_pos hdt, if_pos hdt]
  ·rw [if_neg hdt, if_neg hdt, ho]
   cases o with
   | none => rfl
   | some v =>
    unfold numAns
    dsimp only
    by_cases hmn : m ≠ n
    ·rw [if_pos hmn, if_pos hmn]
    ·rw [if_neg hmn, if_neg hmn]
 obtain ⟨W1, eW1⟩ : ∃ W, w.alloc (.cells #[.int .i64 0, .string ⟨#[]⟩, .int .i64 0, .int .i64 0, .bool false] 83) = W := ⟨_, rfl⟩
 have hb : Below w.heap.size w W1 := by rw [← eW1]; exact (Below.refl _ w).alloc (Nat.le_refl _) _
 have hx : W1.heap[w.heap.size]? = some (.cells #[.int .i64 0, .string ⟨#[]⟩, .int .i64 0, .int .i64 0, .bool false] 83 (0, 0)) := by rw [← eW1]; exact heap_alloc_new _ _
 obtain ⟨⟨y0, y1, y2, y3, y4⟩, g0, g1, g2, g3, g4⟩ := box_facts hx
 have HX := Lib.hid (And.intro hb hx)
 have gn : (n : Int) ≤ s.size := by omega
 have HNm := Lib.hid HNm
 have hdot : (s.data.toList.drop n).head? = some 46 ↔ ∃ h : n < s.size, s[n].toNat = 46 := by
  rw [List.head?_drop]
  constructor
  ·intro h
   have hlt : n < s.size := by
    have := (List.getElem?_eq_some_iff.1 h).1
    rwa [len_toList] at this
   rw [get_toList s n hlt] at h
   exact ⟨hlt, by rw [Option.some.inj h]; rfl⟩
  ·rintro ⟨h, e⟩
   rw [get_toList s n h, u8_lit (k := 46) (by decide) e]
   rfl
 rw [hone]
 clear hh hn hm hl hd hb hx hone ho hes hds hn1
 by_cases hlt : n < s.size
 ·have hlt' : (n : Int) < s.size := by omega
  by_cases hc : s[n].toNat = 46
  ·have hc' : (s[n].toNat : Int) = 46 := by omega
   rw [if_pos (hdot.2 ⟨hlt, hc⟩)]
   clear hdot hc
   go_enter Try.func53, Try.ntmps53
   go_wp2_with (first | (go_at_call 67; (with_reducible refine (HL.out _).mono ?_); rintro e w' ⟨rfl, rfl⟩) | (go_at_call 70; (with_reducible refine (HD.out _).mono ?_); rintro e w' ⟨rfl, rfl⟩) | (go_at_call 68; (with_reducible refine (HR1.out _).mono ?_); rintro e w' ⟨rfl, rfl⟩) | (go_at_call 68; (with_reducible refine (HR2.out _).mono ?_); rintro e w' ⟨rfl, rfl⟩) | (go_at_call 71; (with_reducible refine (HNm.out _).mono ?_); rintro e w' ⟨rfl, rfl⟩))
   exact tok_fin (t := zeroTok) (W1 := W1) 2 3 4 rfl rfl rfl rfl rfl HX.out.2 HX.out.1 rfl
  ·have hc' : ((s[n].toNat : Int) == 46) = false := by rw [beq_eq_false_iff_ne]; omega
   rw [if_neg (fun h => hc (hdot.1 h).2)]
   clear hdot hc
   cases o with
   | none =>
    rw [show numAns none m n = (zeroTok, 0, 24) from rfl]
    go_enter Try.func53, Try.ntmps53
    go_wp2_with (first | (go_at_call 67; (with_reducible refine (HL.out _).mono ?_); rintro e w' ⟨rfl, rfl⟩) | (go_at_call 70; (with_reducible refine (HD.out _).mono ?_); rintro e w' ⟨rfl, rfl⟩) | (go_at_call 68; (with_reducible refine (HR1.out _).mono ?_); rintro e w' ⟨rfl, rfl⟩) | (go_at_call 68; (with_reducible refine (HR2.out _).mono ?_); rintro e w' ⟨rfl, rfl⟩) | (go_at_call 71; (with_reducible refine (HNm.out _).mono ?_); rintro e w' ⟨rfl, rfl⟩))
    exact tok_fin (t := zeroTok) (W1 := W1) 2 3 4 rfl rfl rfl rfl rfl HX.out.2 HX.out.1 rfl
   | some v =>
    by_cases hmn : m = n
    ·subst hmn
     rw [show numAns (some v) m m = (⟨3, [], v, 0, false⟩, (m : Int), 0) from if_neg (by simp)]
     go_enter Try.func53, Try.ntmps53
     go_wp2_with (first | (go_at_call 67; (with_reducible refine (HL.out _).mono ?_); rintro e w' ⟨rfl, rfl⟩) | (go_at_call 70; (with_reducible refine (HD.out _).mono ?_); rintro e w' ⟨rfl, rfl⟩) | (go_at_call 68; (with_reducible refine (HR1.out _).mono ?_); rintro e w' ⟨rfl, rfl⟩) | (go_at_call 68; (with_reducible refine (HR2.out _).mono ?_); rintro e w' ⟨rfl, rfl⟩) | (go_at_call 71; (with_reducible refine (HNm.out _).mono ?_); rintro e w' ⟨rfl, rfl⟩))
     exact tok_fin (W1 := W1) 2 3 4 rfl rfl rfl rfl rfl HX.out.2 HX.out.1 rfl
    ·have hmn' : ((m : Int) != (n : Int)) = true := by rw [bne_iff_ne]; omega
     rw [show numAns (some v) m n = (zeroTok, 0, 24) from if_pos hmn]
     go_enter Try.func53, Try.ntmps53
     go_wp2_with (first | (go_at_call 67; (with_reducible refine (HL.out _).mono ?_); rintro e w' ⟨rfl, rfl⟩) | (go_at_call 70; (with_reducible refine (HD.out _).mono ?_); rintro e w' ⟨rfl, rfl⟩) | (go_at_call 68; (with_reducible refine (HR1.out _).mono ?_); rintro e w' ⟨rfl, rfl⟩) | (go_at_call 68; (with_reducible refine (HR2.out _).mono ?_); rintro e w' ⟨rfl, rfl⟩) | (go_at_call 71; (with_reducible refine (HNm.out _).mono ?_); rintro e w' ⟨rfl, rfl⟩))
     exact tok_fin (t := zeroTok) (W1 := W1) 2 3 4 rfl rfl rfl rfl rfl HX.out.2 HX.out.1 rfl
 ·have hlt' : ¬ (n : Int) < s.size := by omega
  rw [if_neg (fun h => hlt (hdot.1 h).1)]
  clear hdot
  cases o with
  | none =>
   rw [show numAns none m n = (zeroTok, 0, 24) from rfl]
   go_enter Try.func53, Try.ntmps53
   go_wp2_with (first | (go_at_call 67; (with_reducible refine (HL.out _).mono ?_); rintro e w' ⟨rfl, rfl⟩) | (go_at_call 70; (with_reducible refine (HD.out _).mono ?_); rintro e w' ⟨rfl, rfl⟩) | (go_at_call 68; (with_reducible refine (HR1.out _).mono ?_); rintro e w' ⟨rfl, rfl⟩) | (go_at_call 68; (with_reducible refine (HR2.out _).mono ?_); rintro e w' ⟨rfl, rfl⟩) | (go_at_call 71; (with_reducible refine (HNm.out _).mono ?_); rintro e w' ⟨rfl, rfl⟩))
   exact tok_fin (t := zeroTok) (W1 := W1) 2 3 4 rfl rfl rfl rfl rfl HX.out.2 HX.out.1 rfl
  | some v =>
   by_cases hmn : m = n
   ·subst hmn
    rw [show numAns (some v) m m = (⟨3, [], v, 0, false⟩, (m : Int), 0) from if_neg (by simp)]
    go_enter Try.func53, Try.ntmps53
    go_wp2_with (first | (go_at_call 67; (with_reducible refine (HL.out _).mono ?_); rintro e w' ⟨rfl, rfl⟩) | (go_at_call 70; (with_reducible refine (HD.out _).mono ?_); rintro e w' ⟨rfl, rfl⟩) | (go_at_call 68; (with_reducible refine (HR1.out _).mono ?_); rintro e w' ⟨rfl, rfl⟩) | (go_at_call 68; (with_reducible refine (HR2.out _).mono ?_); rintro e w' ⟨rfl, rfl⟩) | (go_at_call 71; (with_reducible refine (HNm.out _).mono ?_); rintro e w' ⟨rfl, rfl⟩))
    exact tok_fin (W1 := W1) 2 3 4 rfl rfl rfl rfl rfl HX.out.2 HX.out.1 rfl
   ·have hmn' : ((m : Int) != (n : Int)) = true := by rw [bne_iff_ne]; omega
    rw [show numAns (some v) m n = (zeroTok, 0, 24) from if_pos hmn]
    go_enter Try.func53, Try.ntmps53
    go_wp2_with (first | (go_at_call 67; (with_reducible refine (HL.out _).mono ?_); rintro e w' ⟨rfl, rfl⟩) | (go_at_call 70; (with_reducible refine (HD.out _).mono ?_); rintro e w' ⟨rfl, rfl⟩) | (go_at_call 68; (with_reducible refine (HR1.out _).mono ?_); rintro e w' ⟨rfl, rfl⟩) | (go_at_call 68; (with_reducible refine (HR2.out _).mono ?_); rintro e w' ⟨rfl, rfl⟩) | (go_at_call 71; (with_reducible refine (HNm.out _).mono ?_); rintro e w' ⟨rfl, rfl⟩))
    exact tok_fin (t := zeroTok) (W1 := W1) 2 3 4 rfl rfl rfl rfl rfl HX.out.2 HX.out.1 rfl
theorem one_sign (s : ByteArray) (w : World) (h0 : 0 < s.size) (hs : s.size ≤ 100000) (hl : letterB s[0] = false) (hd : digitB s[0] = false) (hq : s[0].toNat ≠ 34 ∧ s[0].toNat ≠ 39) :
  Calls Try.prog 53 #[.string s] w fun e w' => e = .returned (.tuple #[tokV (oneT s.data.toList).1, .int .i64 (oneT s.data.toList).2.1, .int .i64 (oneT s.data.toList).2.2]) ∧ Below w.heap.size w w' := by
 have hh := head_of s h0
 obtain ⟨n, hn⟩ : ∃ n, signM s.data.toList = n := ⟨_, rfl⟩
 have hnl : n ≤ s.size := by
  rw [← hn, ← len_toList]
  unfold signM
  split
  ·rename_i h
   have : (s.data.toList.take 3).length = 3 := by
    unfold sign3 at h
    simp only [List.mem_cons, List.not_mem_nil, or_false] at h
    rcases h with h | h <;> rw [h] <;> rfl
   rw [List.length_take] at this
   omega
  ·split
   ·rename_i h
    have : (s.data.toList.take 2).length = 2 := by
     unfold sign2 at h
     simp only [List.mem_cons, List.not_mem_nil, or_false] at h
     rcases h with h | h | h <;> rw [h] <;> rfl
    rw [List.length_take] at this
    omega
   ·rw [len_toList]; split <;> omega
 have hone : oneT s.data.toList = (if n = 0 then (zeroTok, 0, 21) else (⟨5, s.data.toList.take n, 0, 0, false⟩, (n : Int), 0) : Tok × Int × Int) := by
  unfold oneT oneM
  dsimp only
  rw [hh, if_neg (by rw [hl]; decide), if_neg (by rw [hd]; decide), if_neg (fun h => by rcases h with h | h <;> simp [h] at hq), hn]
  by_cases hz : n = 0
  ·rw [if_pos hz, if_pos hz]
  ·rw [if_neg hz, if_neg hz]
 have HL := rletter_any s[0]
 rw [hl] at HL
 have HL := Lib.hid HL
 have HD := rdigit_any s[0]
 rw [hd] at HD
 have HD := Lib.hid HD
 have HS := fun w => sign_any s w h0 (by unfold maxLen; omega)
 rw [hn] at HS
 have HS := Lib.hid HS
 have HE := Lib.hid (ext_bs s n)
 have q1 : ((s[0].toNat : Int) == 34) = false := by rw [beq_eq_false_iff_ne]; omega
 have q2 : ((s[0].toNat : Int) == 39) = false := by rw [beq_eq_false_iff_ne]; omega
 obtain ⟨W1, eW1⟩ : ∃ W, w.alloc (.cells #[.int .i64 0, .string ⟨#[]⟩, .int .i64 0, .int .i64 0, .bool false] 83) = W := ⟨_, rfl⟩
 have hb : Below w.heap.size w W1 := by rw [← eW1]; exact (Below.refl _ w).alloc (Nat.le_refl _) _
 have hx : W1.heap[w.heap.size]? = some (.cells #[.int .i64 0, .string ⟨#[]⟩, .int .i64 0, .int .i64 0, .bool false] 83 (0, 0)) := by rw [← eW1]; exact heap_alloc_new _ _
 obtain ⟨⟨y0, y1, y2, y3, y4⟩, g0, g1, g2, g3, g4⟩ := box_facts hx
 have HX := Lib.hid (And.intro hb hx)
 have gn : (n : Int) ≤ s.size := by omega
 rw [hone]
 clear hh hn hl hd hb hx hone hq
 by_cases hz : n = 0
 ·subst hz
  rw [if_pos rfl]
  go_enter Try.func53, Try.ntmps53
  go_wp2_with (first | (go_at_call 67; (with_reducible refine (HL.out _).mono ?_); rintro e w' ⟨rfl, rfl⟩) | (go_at_call 70; (with_reducible refine (HD.out _).mono ?_); rintro e w' ⟨rfl, rfl⟩) | (go_at_call 73; (with_reducible refine (HS.out _).mono ?_); rintro e w' ⟨rfl, rfl⟩))
  exact tok_fin (t := zeroTok) (W1 := W1) 2 3 4 rfl rfl rfl rfl rfl HX.out.2 HX.out.1 rfl
 ·have hz' : ((n : Int) == 0) = false := by rw [beq_eq_false_iff_ne]; omega
  rw [if_neg hz]
  go_enter Try.func53, Try.ntmps53
  go_wp2_with (first | (go_at_call 67; (with_reducible refine (HL.out _).mono ?_); rintro e w' ⟨rfl, rfl⟩) | (go_at_call 70; (with_reducible refine (HD.out _).mono ?_); rintro e w' ⟨rfl, rfl⟩) | (go_at_call 73; (with_reducible refine (HS.out _).mono ?_); rintro e w' ⟨rfl, rfl⟩))
  exact tok_fin (W1 := W1) 2 3 4 rfl rfl rfl rfl rfl HX.out.2 HX.out.1 (by rw [HE.out]; rfl)
end
end Go.Proofs.Ytbpodijcndglgaa
